/- waysOf, walked. -/
import Derived.Test.YtbmcibofecigeaaGreatFlt132
import Derived.Test.YtbmcibofecigeaaGreatLvO14
import Derived.Deep.OwnRows
namespace Go.Proofs.YtbmcibofecigeaaGreat

section
open Go.RowKit Go.Maps
theorem made_list (z : Value) (n : Nat) : (madeCells #[z] n).toList = List.replicate n z := toList_madeCells_one z n
theorem mkI {n : Nat} (hn : n ≤ 1000000) (w : World) : (Instr.makeSlice 24 (.int .i64 (n : Nat)) (.int .i64 (n : Nat))).run Tryz.prog w = .ok (.slice (some ⟨w.heap.size, 0, none⟩) n n) (w.alloc (.cells (madeCells #[.int .i64 0] n) 3)) :=
  run_make_row' 24 3 (.int .i64 0) 8 Tryz.underlying24 info3 rfl .i64 .i64 n (by omega) (by omega) w
theorem brow_made (n : Nat) (hn : n ≤ 1000000) (w : World) : BRow w.heap.size (w.alloc (.cells (madeCells #[.int .i64 0] n) 3)) (.slice (some ⟨w.heap.size, 0, none⟩) n n) (List.replicate n 0) := by
  refine ⟨by simp, .inr ⟨w.heap.size, n, madeCells #[.int .i64 0] n, by simp, Nat.le_refl _, heap_alloc_new _ _, by simp, by unfold maxLen; omega, ?_, ?_⟩⟩
  · rw [← Array.length_toList, made_list]; simp
  · rw [made_list]; simp
/-- A tree's box. -/
def oT (s : Int) (dv fv : Value) : Obj := .cells #[.int .i64 s, dv, fv] 97
theorem cellsT {w : World} {p : Nat} {s : Int} {dv fv : Value} (h : w.heap[p]? = some (oT s dv fv)) : w.cell? ⟨p, 0, none⟩ = some (.int .i64 s) ∧ w.cell? ⟨p, 1, none⟩ = some dv ∧ w.cell? ⟨p, 2, none⟩ = some fv ∧ ∀ o, w.frozen? ⟨p, o, none⟩ = false :=
  ⟨(cell_of_row _ _ 0 _ _ (0, 0) h).trans rfl, (cell_of_row _ _ 1 _ _ (0, 0) h).trans rfl, (cell_of_row _ _ 2 _ _ (0, 0) h).trans rfl, fun o => frozen_of_row _ _ o _ _ h⟩
/-- A tree in memory: its distances, and where each path comes from. -/
structure TrAt (B : Nat) (w : World) (p : Nat) (s : Int) (dv fv : Value) (ds : List DiV) (fs : List Int) : Prop where
  box : w.heap[p]? = some (oT s dv fv)
  ds_ : DRow B w dv ds
  fs_ : BRow B w fv fs
  lo : B ≤ p
  ne1 : dv.ownBlock ≠ some p
  ne2 : fv.ownBlock ≠ some p
  ne3 : ∀ b, dv.ownBlock = some b → fv.ownBlock ≠ some b
theorem TrAt.kept {B : Nat} {w w' : World} {p : Nat} {s : Int} {dv fv : Value} {ds : List DiV} {fs : List Int} (h : TrAt B w p s dv fv ds fs) (hk : ∀ b, b = p ∨ dv.ownBlock = some b ∨ fv.ownBlock = some b → w'.heap[b]? = w.heap[b]?) : TrAt B w' p s dv fv ds fs :=
  ⟨(hk p (.inl rfl)).trans h.box, rrow_kept h.ds_ (fun b e => hk b (.inr (.inl e))), brow_kept h.fs_ (fun b e => hk b (.inr (.inr e))), h.lo, h.ne1, h.ne2, h.ne3⟩
theorem TrAt.lt {B : Nat} {w : World} {p : Nat} {s : Int} {dv fv : Value} {ds : List DiV} {fs : List Int} (h : TrAt B w p s dv fv ds fs) {b : Nat} (hb : b = p ∨ dv.ownBlock = some b ∨ fv.ownBlock = some b) : B ≤ b ∧ b < w.heap.size := by
  rcases hb with rfl | e | e
  · exact ⟨h.lo, heap_lt h.box⟩
  · exact h.ds_.lt b e
  · exact h.fs_.lt b e
theorem TrAt.below {B : Nat} {w w' : World} {p : Nat} {s : Int} {dv fv : Value} {ds : List DiV} {fs : List Int} (h : TrAt B w p s dv fv ds fs) (hb : Below w.heap.size w w') : TrAt B w' p s dv fv ds fs := h.kept (fun b e => hb.block b (h.lt e).2)
/-- The distances of a graph without edges. -/
def bareD (s : Int) (ys : List Int) : List DiV := ys.map (fun v => (v, v != s, 0, 0))
def BareP (w : World) (p : Nat) (s : Int) (fv : Value) (ys : List Int) (n i : Nat) (W : World) : Prop := ∃ dv, TrAt w.heap.size W p s dv fv (bareD s (ys.take i)) (List.replicate n 0) ∧ Below w.heap.size w W ∧ ∃ a m c, dv = .slice a m c
theorem bare_step {w W : World} {p : Nat} {s v : Int} {a : Option Addr} {m c : Nat} {fv : Value} {ys : List Int} {n i : Nat} (h : TrAt w.heap.size W p s (.slice a m c) fv (bareD s (ys.take i)) (List.replicate n 0)) (hb : Below w.heap.size w W) (hi : ys[i]? = some v) (hl : ys.length ≤ 1000) :
    ∃ a' n' c' w', (∀ ty, (Builtin.append_ #[43, 43] ty #[.slice a m c, .slice (some ⟨W.heap.size, 0, none⟩) 1 1]).run Tryz.prog (W.alloc (.cells #[.int .i64 v, .bool (v != s), .int .u32 0, .int .i64 0] 48)) = .ok (.slice a' n' c') w') ∧ w'.cell? ⟨p, 1, none⟩ = some (.slice a m c) ∧ (∀ o, w'.frozen? ⟨p, o, none⟩ = false) ∧ BareP w p s fv ys n (i + 1) (w'.setCell ⟨p, 1, none⟩ (.slice a' n' c')) := by
  have hs := hb.size
  have hpl := heap_lt h.box
  obtain ⟨a', n', c', w', r, g1, g2, g3⟩ := run_app1 kitD (ts := 43) Tryz.underlying43 infoD rfl (by omega) ((v, v != s, 0, 0) : DiV) (cs := #[.int .i64 v, .bool (v != s), .int .u32 0, .int .i64 0]) rfl h.ds_ hs (by unfold bareD; rw [List.length_map, List.length_take]; omega)
  have hp' : w'.heap[p]? = some (oT s (.slice a m c) fv) := (g2.block p hpl h.ne1).trans h.box
  have hap : (Value.slice a' n' c').ownBlock ≠ some p := fun e => by
    rcases g3 p e with q | q
    · exact h.ne1 q
    · omega
  have hbx : (w'.setCell ⟨p, 1, none⟩ (.slice a' n' c')).heap[p]? = some (oT s (.slice a' n' c') fv) := by rw [oT, heap_setCell_same _ _ _ _ _ _ hp']; rfl
  refine ⟨a', n', c', w', r, (cellsT hp').2.1, (cellsT hp').2.2.2, .slice a' n' c', ⟨hbx, ?_, ?_, h.lo, hap, h.ne2, fun b e e2 => ?_⟩, ?_, a', n', c', rfl⟩
  · refine rrow_kept (w := w') ?_ (fun b e => heap_setCell_other _ _ _ _ (fun q => hap (by have q2 : b = p := q; rw [← q2]; exact e)))
    have e : bareD s (ys.take (i + 1)) = bareD s (ys.take i) ++ [(v, v != s, 0, 0)] := by unfold bareD; rw [List.take_add_one, hi, List.map_append]; rfl
    rw [e]; exact g1
  · refine brow_kept h.fs_ (fun b e => ?_)
    rw [heap_setCell_other _ _ _ _ (fun q => h.ne2 (by have q2 : b = p := q; rw [← q2]; exact e))]
    exact g2.block b (h.fs_.lt b e).2 (fun q => h.ne3 b q e)
  · rcases g3 b e with q | q
    · exact h.ne3 b q e2
    · have := (h.fs_.lt b e2).2; omega
  · have hb2 : Below w.heap.size w w' := hb.trans (g2.below hs (fun b e => (h.ds_.lt b e).1))
    exact hb2.setCell (p := ⟨p, 1, none⟩) h.lo _
def BareAns (w : World) (s : Int) (ys : List Int) (p : Nat) (w' : World) : Prop := ∃ a m c fv, TrAt w.heap.size w' p s (.slice a m c) fv (bareD s ys) (List.replicate ys.length 0) ∧ Below w.heap.size w w'
set_option maxHeartbeats 1000000 in
set_option maxRecDepth 100000 in
theorem bareS {w : World} {vv : Value} {ys : List Int} {s : Int} (h : NRow w vv ys) (hl : ys.length ≤ 1000) :
    Calls Tryz.prog 39 #[vv, .int .i64 s] w fun e w' => ∃ p, e = .returned (.pointer (some ⟨p, 0, none⟩)) ∧ Hid (BareAns w s ys p w') := by
  obtain ⟨a1, c1, e1, -⟩ := brow_shape h
  obtain ⟨n, hn⟩ : ∃ n, n = ys.length := ⟨_, rfl⟩
  rw [← hn] at e1
  subst e1
  have H : Hid (NRow w (.slice a1 n c1) ys ∧ n = ys.length ∧ n ≤ 1000) := ⟨h, hn, by omega⟩
  have hmk := mkI (n := n) (by omega) w
  have hbm := brow_made n (by omega) w
  have hb1 := below_new w (.cells (madeCells #[.int .i64 0] n) 3)
  obtain ⟨w1, hw1⟩ : ∃ w1, w1 = w.alloc (.cells (madeCells #[.int .i64 0] n) 3) := ⟨_, rfl⟩
  have hsz : w1.heap.size = w.heap.size + 1 := by rw [hw1]; simp
  rw [← hw1] at hmk hbm hb1
  have HM : Hid (BRow w.heap.size w1 (.slice (some ⟨w.heap.size, 0, none⟩) n n) (List.replicate n 0) ∧ Below w.heap.size w w1 ∧ w1.heap.size = w.heap.size + 1) := ⟨hbm, hb1, hsz⟩
  clear h hn hl hbm hb1 hw1 hsz
  go_enter Tryz.func39, Tryz.ntmps39
  go_upto_region 3 with fail
  clear hmk
  obtain ⟨p, hp⟩ : ∃ p, p = w1.heap.size := ⟨_, rfl⟩
  have HP : Hid (BareP w p s (.slice (some ⟨w.heap.size, 0, none⟩) n n) ys n 0 (w1.alloc (oT s (.slice none 0 0) (.slice (some ⟨w.heap.size, 0, none⟩) n n)))) := by
    obtain ⟨m1, m2, m3⟩ := unhide HM
    have hb := below_new w1 (oT s (.slice none 0 0) (.slice (some ⟨w.heap.size, 0, none⟩) n n))
    refine ⟨.slice none 0 0, ⟨?_, ⟨rfl, .inl ⟨rfl, rfl⟩⟩, brow_kept m1 (fun b e => hb.block b (m1.lt b e).2), by omega, fun e => (by cases e), fun e => by have := own_eq e; omega, fun b e => (by cases e)⟩, m2.trans (hb.mono m2.size), none, 0, 0, rfl⟩
    rw [hp]; exact heap_alloc_new _ _
  change Code.wp _ _ _ _ (w1.alloc (oT s (.slice none 0 0) (.slice (some ⟨w.heap.size, 0, none⟩) n n)))
  rw [← hp]
  generalize w1.alloc (oT s (.slice none 0 0) (.slice (some ⟨w.heap.size, 0, none⟩) n n)) = W0 at *
  clear hp HM
  generalize (Value.slice (some ⟨w.heap.size, 0, none⟩) n n) = fv at *
  go_loopw [16] (fun s16 W => ∃ i : Nat, s16 = .int .i64 i ∧ i ≤ n ∧ Hid (BareP w p s fv ys n i W)) (fun s16 _ => n - (intOf s16).toNat)
  case atStart => exact ⟨0, rfl, Nat.zero_le _, HP⟩
  case round =>
    obtain ⟨i, rfl, hin, HI⟩ := hrel
    obtain ⟨dv, hT, hB, a, m, c, rfl⟩ := unhide HI
    obtain ⟨h1, h2, h3⟩ := unhide H
    by_cases hlt : i < n
    · obtain ⟨v, hv⟩ : ∃ v, ys[i]? = some v := ⟨_, List.getElem?_eq_getElem (by omega)⟩
      have hrow := nrow_below h1 hB
      obtain ⟨g, rfl⟩ := brow_some hrow (by omega)
      have d1 := brow_at hrow hv
      obtain ⟨k0, k1, k2, kf⟩ := cellsT hT.box
      obtain ⟨a', n', c', w', r, q1, q2, q3⟩ := bare_step hT hB hv (by omega)
      have HR := hide r
      have HN := hide q3
      have z1 : (i : Int) < (n : Int) := by omega
      obtain ⟨j, hj⟩ : ∃ j, j = i + 1 := ⟨_, rfl⟩
      have zw : Hid (wrap64 ((i : Int) + 1) = (j : Int)) := by show wrap64 ((i : Int) + 1) = (j : Int); unfold wrap64; omega
      have HJ : Hid (j = i + 1 ∧ j ≤ n ∧ n - j < n - i) := ⟨hj, by omega, by omega⟩
      clear HP HI hT hB h1 h2 h3 hrow hv r q3 hin hlt hj
      go_wp2_with (at_builtin; refine Lib.wpList_append_run _ rfl _ _ 43 43 rfl _ _ rfl rfl _ _ (unhide HR _) ?_)
      (try rw [unhide zw])
      exact ⟨⟨j, by first | rfl | (rw [(unhide HJ).1]; rfl), (unhide HJ).2.1, by rw [(unhide HJ).1]; exact HN⟩, by have := unhide HJ; simp [intOf]; omega⟩
    · have z1 : ¬ (i : Int) < (n : Int) := by omega
      have HE : Hid (BareAns w s ys p wr) := by
        rw [List.take_of_length_le (by omega)] at hT
        exact ⟨a, m, c, fv, by rw [← h2]; exact hT, hB⟩
      clear HP HI hT hB h1 h2 h3 hin hlt
      go_wp2_with fail
      go_ret
      exact ⟨p, rfl, HE⟩
end

section
open Go.RowKit Go.Maps
attribute [local go_sem] run_storeF
/-- The ways of each place, in memory. -/
structure WyAt (B : Nat) (w : World) (v : Value) (xs : List SlV) (wss : List (List WyV)) : Prop where
  outer : HdRow B w v xs
  len : xs.length = wss.length
  inner : ∀ (i : Nat) (x : SlV) (ws : List WyV), xs[i]? = some x → wss[i]? = some ws → WRow B w (slv x) ws
  ap0 : ∀ (i : Nat) (x : SlV) (b : Nat), xs[i]? = some x → (slv x).ownBlock = some b → v.ownBlock ≠ some b
  ap : ∀ (i j : Nat) (x y : SlV) (b : Nat), i ≠ j → xs[i]? = some x → xs[j]? = some y → (slv x).ownBlock = some b → (slv y).ownBlock ≠ some b
theorem WyAt.below {B : Nat} {w w' : World} {v : Value} {xs : List SlV} {wss : List (List WyV)} (h : WyAt B w v xs wss) (hb : Below w.heap.size w w') : WyAt B w' v xs wss :=
  ⟨rrow_below h.outer hb, h.len, fun i x ws h1 h2 => rrow_below (h.inner i x ws h1 h2) hb, h.ap0, h.ap⟩
theorem mkW {n : Nat} (hn : n ≤ 1000000) (w : World) : (Instr.makeSlice 92 (.int .i64 (n : Nat)) (.int .i64 (n : Nat))).run Tryz.prog w = .ok (.slice (some ⟨w.heap.size, 0, none⟩) n n) (w.alloc (.cells (madeCells #[.slice none 0 0] n) 128)) :=
  run_make_row' 92 128 (.slice none 0 0) 24 Tryz.underlying92 infoWS rfl .i64 .i64 n (by omega) (by omega) w
theorem flat_rep (n : Nat) : (List.replicate n ((none, 0, 0) : SlV)).flatMap encS = List.replicate n (.slice none 0 0) := by
  induction n with
  | zero => rfl
  | succ n ih => rw [List.replicate_succ, List.flatMap_cons, ih, List.replicate_succ]; rfl
theorem wy_made {n : Nat} (hn : n ≤ 1000000) (w : World) : WyAt w.heap.size (w.alloc (.cells (madeCells #[.slice none 0 0] n) 128)) (.slice (some ⟨w.heap.size, 0, none⟩) n n) (List.replicate n (none, 0, 0)) (List.replicate n []) := by
  refine ⟨⟨by rw [flat_rep]; simp, .inr ⟨w.heap.size, n, madeCells #[.slice none 0 0] n, by simp, Nat.le_refl _, heap_alloc_new _ _, by simp, by unfold maxLen; omega, ?_, ?_⟩⟩, by simp, fun i x ws h1 h2 => ?_, fun i x b h1 e => ?_, fun i j x y b _ h1 _ e => ?_⟩
  · rw [← Array.length_toList, made_list]; simp
  · rw [made_list, flat_rep]; simp
  · rw [List.eq_of_mem_replicate (List.mem_of_getElem? h1), List.eq_of_mem_replicate (List.mem_of_getElem? h2)]
    exact ⟨rfl, .inl ⟨rfl, rfl⟩⟩
  · rw [List.eq_of_mem_replicate (List.mem_of_getElem? h1)] at e; cases e
  · rw [List.eq_of_mem_replicate (List.mem_of_getElem? h1)] at e; cases e
/-- A way more at one place. -/
theorem wy_step {B : Nat} {w : World} {g n c f : Nat} {xs : List SlV} {wss : List (List WyV)} {x : SlV} {ws : List WyV} (h : WyAt B w (.slice (some ⟨g, 0, none⟩) n c) xs wss) (hB : B ≤ w.heap.size) (hx : xs[f]? = some x) (hw : wss[f]? = some ws) (hl : ws.length ≤ 1000) (y : WyV) :
    ∃ a' n' c' w', (∀ ty, (Builtin.append_ #[128, 128] ty #[slv x, .slice (some ⟨w.heap.size, 0, none⟩) 1 1]).run Tryz.prog (w.alloc (.cells #[.int .i64 y.1, .int .i64 (y.2.1 : Nat), .float .f32 y.2.2] 130)) = .ok (.slice a' n' c') w') ∧ w'.cell? ⟨g, f, none⟩ = some (slv x) ∧ (∀ o, w'.frozen? ⟨g, o, none⟩ = false) ∧ Turned (fun b => (slv x).ownBlock = some b) w w' ∧
      WyAt B (w'.setCell ⟨g, f, none⟩ (.slice a' n' c')) (.slice (some ⟨g, 0, none⟩) n c) (xs.set f (a', n', c')) (wss.set f (ws ++ [y])) := by
  have hin := h.inner f x ws hx hw
  have hxl := (List.getElem?_eq_some_iff.1 hx).1
  obtain ⟨a', n', c', w', r, g1, g2, g3⟩ := run_app1 kitW (ts := 128) Tryz.underlying128 infoW rfl (by omega) y (cs := #[.int .i64 y.1, .int .i64 (y.2.1 : Nat), .float .f32 y.2.2]) rfl hin hB (by omega)
  have hg0 : (Value.slice (some ⟨g, 0, none⟩) n c).ownBlock = some g := rfl
  have hgl := (h.outer.lt g hg0).2
  have ho : HdRow B w' (.slice (some ⟨g, 0, none⟩) n c) xs := rrow_kept h.outer (fun b e => g2.block b (h.outer.lt b e).2 (fun q => h.ap0 f x b hx q e))
  have hnew : ∀ b, (Value.slice a' n' c').ownBlock = some b → b ≠ g := fun b e q => by
    rcases g3 b e with z | z
    · exact h.ap0 f x b hx z (by rw [q]; rfl)
    · omega
  have hset := rrow_set kitS ho hx (x' := (a', n', c')) (j := 0) (by omega) (u := .slice a' n' c') rfl
  rw [Nat.mul_one, Nat.add_zero] at hset
  refine ⟨a', n', c', w', r, hdrow_at ho hx, rrow_frozen ho (by omega), g2, hset, by rw [List.length_set, List.length_set]; exact h.len, fun i z zs h1 h2 => ?_, fun i z b h1 e => ?_, fun i j z z' b hne h1 h2 e => ?_⟩
  · by_cases q : i = f
    · subst q
      rw [List.getElem?_set_self hxl] at h1
      rw [List.getElem?_set_self (by rw [← h.len]; exact hxl)] at h2
      injection h1 with h1
      injection h2 with h2
      subst h1 h2
      exact rrow_kept g1 (fun b e => heap_setCell_other _ _ _ _ (hnew b e))
    · rw [List.getElem?_set_ne (fun z => q z.symm)] at h1 h2
      have hr := h.inner i z zs h1 h2
      refine rrow_kept hr (fun b e => ?_)
      rw [heap_setCell_other _ _ _ _ (fun z2 => h.ap0 i z b h1 e (by have z3 : b = g := z2; rw [z3]; rfl))]
      exact g2.block b (hr.lt b e).2 (fun z2 => h.ap i f z x b q h1 hx e z2)
  · by_cases q : i = f
    · subst q
      rw [List.getElem?_set_self hxl] at h1
      injection h1 with h1
      subst h1
      exact fun z2 => hnew b e (own_eq z2).symm
    · rw [List.getElem?_set_ne (fun z => q z.symm)] at h1
      exact h.ap0 i z b h1 e
  · have old : ∀ (i : Nat) (z : SlV) (b : Nat), i ≠ f → xs[i]? = some z → (slv z).ownBlock = some b → (Value.slice a' n' c').ownBlock ≠ some b := fun i z b q h1 e e2 => by
      rcases g3 b e2 with y2 | y2
      · exact h.ap i f z x b q h1 hx e y2
      · have hlz : i < wss.length := by rw [← h.len]; exact (List.getElem?_eq_some_iff.1 h1).1
        have := ((h.inner i z _ h1 (List.getElem?_eq_getElem hlz)).lt b e).2; omega
    by_cases q : i = f
    · subst q
      rw [List.getElem?_set_self hxl] at h1
      injection h1 with h1
      subst h1
      rw [List.getElem?_set_ne hne] at h2
      exact fun e2 => old j z' b (fun z2 => hne z2.symm) h2 e2 e
    · rw [List.getElem?_set_ne (fun z => q z.symm)] at h1
      by_cases q2 : j = f
      · subst q2
        rw [List.getElem?_set_self hxl] at h2
        injection h2 with h2
        subst h2
        exact old i z b q h1 e
      · rw [List.getElem?_set_ne (fun z => q2 z.symm)] at h2
        exact h.ap i j z z' b hne h1 h2 e
/-- Where a vertex stands. -/
def plc (ys : List Int) (v : Int) : Nat := ys.countP (fun x => decide (x < v))
/-- The weight's word. -/
def wtN (x : EdV) : Nat := ((kept x.2.2.2).getD 0).toNat
def wayOf (ys : List Int) (x : EdV) : WyV := (x.1, plc ys x.2.2.1, wtN x)
/-- The ways of each place. -/
def waysL (ys : List Int) (es : List EdV) : List (List WyV) := (List.range ys.length).map (fun p => (es.filter (fun x => decide (plc ys x.2.1 = p))).map (wayOf ys))
theorem waysL_nil (ys : List Int) : waysL ys [] = List.replicate ys.length [] := by
  unfold waysL
  apply List.ext_getElem?
  intro i
  by_cases h : i < ys.length
  · simp [h]
  · simp [h]
theorem waysL_at {ys : List Int} {es : List EdV} {p : Nat} (h : p < ys.length) : (waysL ys es)[p]? = some ((es.filter (fun x => decide (plc ys x.2.1 = p))).map (wayOf ys)) := by
  unfold waysL; simp [h]
theorem waysL_len (ys : List Int) (es : List EdV) : (waysL ys es).length = ys.length := by unfold waysL; simp
theorem waysL_snoc {ys : List Int} {es : List EdV} {x : EdV} {ws : List WyV} (hp : plc ys x.2.1 < ys.length) (hw : (waysL ys es)[plc ys x.2.1]? = some ws) : waysL ys (es ++ [x]) = (waysL ys es).set (plc ys x.2.1) (ws ++ [wayOf ys x]) := by
  rw [waysL_at hp] at hw
  injection hw with hw
  apply List.ext_getElem?
  intro i
  by_cases h : i < ys.length
  · rw [waysL_at h]
    by_cases q : i = plc ys x.2.1
    · subst q
      rw [List.getElem?_set_self (by rw [waysL_len]; exact hp), ← hw, List.filter_append, List.map_append]
      simp
    · rw [List.getElem?_set_ne (fun z => q z.symm), waysL_at h, List.filter_append]
      have : [x].filter (fun y => decide (plc ys y.2.1 = i)) = [] := by simp; exact fun z => q z.symm
      rw [this, List.append_nil]
  · rw [List.getElem?_eq_none (by rw [waysL_len]; omega), List.getElem?_eq_none (by rw [List.length_set, waysL_len]; omega)]
theorem plc_lt {ys : List Int} {v : Int} (hv : v ∈ ys) : plc ys v < ys.length := by
  unfold plc
  rcases Nat.lt_or_ge (ys.countP (fun x => decide (x < v))) ys.length with h | h
  · exact h
  · have := List.countP_eq_length.1 (Nat.le_antisymm List.countP_le_length h) v hv
    simp at this
def WysAns (w : World) (ys : List Int) (es : List EdV) (v : Value) (w' : World) : Prop := ∃ xs, WyAt w.heap.size w' v xs (waysL ys es) ∧ Below w.heap.size w w'
end

section
open Go.RowKit Go.Maps
attribute [local go_sem] run_storeF
set_option maxHeartbeats 2000000 in
set_option maxRecDepth 100000 in
theorem waysOfS {w : World} {vv ev : Value} {ys : List Int} {es : List EdV} (hv : NRow w vv ys) (hs : ys.Pairwise (· ≤ ·)) (he : ERow 0 w ev es) (hl1 : ys.length ≤ 1000) (hl2 : es.length ≤ 1000) (hin : ∀ x ∈ es, x.2.1 ∈ ys ∧ x.2.2.1 ∈ ys ∧ (kept x.2.2.2).isSome = true) :
    Calls Tryz.prog 41 #[vv, ev] w fun e w' => ∃ a n c, e = .returned (.slice a n c) ∧ Hid (WysAns w ys es (.slice a n c) w') := by
  obtain ⟨a1, c1, e1, -⟩ := brow_shape hv
  obtain ⟨n, hn⟩ : ∃ n, n = ys.length := ⟨_, rfl⟩
  rw [← hn] at e1
  subst e1
  obtain ⟨a2, c2, e2⟩ := rrow_shape he
  obtain ⟨m, hm⟩ : ∃ m, m = es.length := ⟨_, rfl⟩
  rw [← hm] at e2
  subst e2
  have HH : Hid (NRow w (.slice a1 n c1) ys ∧ ys.Pairwise (· ≤ ·) ∧ ERow 0 w (.slice a2 m c2) es ∧ n = ys.length ∧ m = es.length ∧ n ≤ 1000 ∧ m ≤ 1000 ∧ ∀ x ∈ es, x.2.1 ∈ ys ∧ x.2.2.1 ∈ ys ∧ (kept x.2.2.2).isSome = true) := ⟨hv, hs, he, hn, hm, by omega, by omega, hin⟩
  have hmk := mkW (n := n) (by omega) w
  have hwm := wy_made (n := n) (by omega) w
  have hb1 := below_new w (.cells (madeCells #[.slice none 0 0] n) 128)
  obtain ⟨w1, hw1⟩ : ∃ w1, w1 = w.alloc (.cells (madeCells #[.slice none 0 0] n) 128) := ⟨_, rfl⟩
  rw [← hw1] at hmk hwm hb1
  obtain ⟨g, hg⟩ : ∃ g, g = w.heap.size := ⟨_, rfl⟩
  have HP : Hid (∃ xs, WyAt w.heap.size w1 (.slice (some ⟨g, 0, none⟩) n n) xs (waysL ys (es.take 0)) ∧ Below w.heap.size w w1) := by
    refine ⟨List.replicate n (none, 0, 0), ?_, hb1⟩
    rw [List.take_zero, waysL_nil, hg, ← hn]
    exact hwm
  rw [← hg] at hmk
  clear hv hs he hl1 hl2 hin hn hm hwm hb1 hw1 hg
  go_enter Tryz.func41, Tryz.ntmps41
  go_upto_region 3 with fail
  clear hmk
  go_loopw [19] (fun s19 W => ∃ i : Nat, s19 = .int .i64 i ∧ i ≤ m ∧ Hid (∃ xs, WyAt w.heap.size W (.slice (some ⟨g, 0, none⟩) n n) xs (waysL ys (es.take i)) ∧ Below w.heap.size w W)) (fun s19 _ => m - (intOf s19).toNat)
  case atStart => exact ⟨0, rfl, Nat.zero_le _, HP⟩
  case round =>
    obtain ⟨i, rfl, him, HI⟩ := hrel
    obtain ⟨xs, hW, hB⟩ := unhide HI
    obtain ⟨h1, h2, h3, h4, h5, h6, h7, h8⟩ := unhide HH
    by_cases hlt : i < m
    · obtain ⟨x, hx⟩ : ∃ x, es[i]? = some x := ⟨_, List.getElem?_eq_getElem (by omega)⟩
      obtain ⟨i1, i2, i3⟩ := h8 x (List.mem_of_getElem? hx)
      have hrow := rrow_below h3 hB
      obtain ⟨ge, rfl⟩ := rrow_some hrow (by omega)
      obtain ⟨d0, d1, d2, d3⟩ := erow_at hrow hx
      have hb := below_new wr (oEd x)
      obtain ⟨k0, k1, k2, k3⟩ := cellsEd (heap_alloc_new wr (oEd x))
      obtain ⟨eb, heb⟩ : ∃ eb, eb = wr.heap.size := ⟨_, rfl⟩
      rw [← heb] at k0 k1 k2 k3
      have hsz : (wr.alloc (oEd x)).heap.size = wr.heap.size + 1 := by simp
      obtain ⟨W1, hW1⟩ : ∃ W1, W1 = wr.alloc (oEd x) := ⟨_, rfl⟩
      rw [← hW1] at hb k0 k1 k2 k3 hsz
      have HW1 := hide hW1
      clear hW1
      have B1 : Hid (Below w.heap.size w W1) := hB.trans (hb.mono hB.size)
      have C1 : Hid (∀ q, Calls Tryz.prog 81 #[.slice a1 n c1, .int .i64 x.2.1] (W1.drewN q) fun e w' => ∃ f, e = .returned (.tuple #[.int .i64 (plc ys x.2.1 : Nat), .bool f]) ∧ ∃ q, w' = W1.drewN q) := fun q => by
        refine (findB _ ys x.2.1 _ (nrow_below h1 (below_drewN (unhide B1) q)) (by omega) h2).mono ?_
        rintro e w' ⟨rfl, q', rfl⟩
        exact ⟨_, rfl, q + q', World.drewN_drewN _ _ _⟩
      have C2 : Hid (∀ q, Calls Tryz.prog 81 #[.slice a1 n c1, .int .i64 x.2.2.1] (W1.drewN q) fun e w' => ∃ f, e = .returned (.tuple #[.int .i64 (plc ys x.2.2.1 : Nat), .bool f]) ∧ ∃ q, w' = W1.drewN q) := fun q => by
        refine (findB _ ys x.2.2.1 _ (nrow_below h1 (below_drewN (unhide B1) q)) (by omega) h2).mono ?_
        rintro e w' ⟨rfl, q', rfl⟩
        exact ⟨_, rfl, q + q', World.drewN_drewN _ _ _⟩
      have C3 : Hid (∀ W, Calls Tryz.prog 47 #[.int .u32 x.2.2.2] W fun e w' => e = .returned (.tuple #[.float .f32 (wtN x), .int .i64 0]) ∧ w' = W) := fun W => by
        have := admitS x.2.2.2 W
        obtain ⟨z, hz⟩ := Option.isSome_iff_exists.1 i3
        unfold ansAd at this
        rw [hz] at this
        unfold wtN
        rw [hz]; exact this
      have hfl : plc ys x.2.1 < n := by rw [h4]; exact plc_lt i1
      obtain ⟨y0, hy0⟩ : ∃ y0, xs[plc ys x.2.1]? = some y0 := ⟨_, List.getElem?_eq_getElem (by rw [hW.len, waysL_len, ← h4]; exact hfl)⟩
      obtain ⟨ws, hws⟩ : ∃ ws, (waysL ys (es.take i))[plc ys x.2.1]? = some ws := ⟨_, List.getElem?_eq_getElem (by rw [waysL_len, ← h4]; exact hfl)⟩
      have hwl : ws.length ≤ 1000 := by
        rw [waysL_at (by omega)] at hws
        injection hws with hws
        rw [← hws, List.length_map]
        have := List.length_filter_le (fun x_1 => decide (plc ys x_1.2.1 = plc ys x.2.1)) (es.take i)
        rw [List.length_take] at this; omega
      have hsn := waysL_snoc (x := x) (by omega) hws
      have etk : es.take (i + 1) = es.take i ++ [x] := by rw [List.take_add_one, hx]; rfl
      have HST : Hid (∀ q, ∃ a' n' c' w', (∀ ty, (Builtin.append_ #[128, 128] ty #[slv y0, .slice (some ⟨(W1.drewN q).heap.size, 0, none⟩) 1 1]).run Tryz.prog ((W1.drewN q).alloc (.cells #[.int .i64 x.1, .int .i64 (plc ys x.2.2.1 : Nat), .float .f32 (wtN x)] 130)) = .ok (.slice a' n' c') w') ∧ w'.cell? ⟨g, plc ys x.2.1, none⟩ = some (slv y0) ∧ (∀ o, w'.frozen? ⟨g, o, none⟩ = false) ∧ w'.cell? ⟨eb, 0, none⟩ = some (.int .i64 x.1) ∧ ∃ xs, WyAt w.heap.size (w'.setCell ⟨g, plc ys x.2.1, none⟩ (.slice a' n' c')) (.slice (some ⟨g, 0, none⟩) n n) xs (waysL ys (es.take (i + 1))) ∧ Below w.heap.size w (w'.setCell ⟨g, plc ys x.2.1, none⟩ (.slice a' n' c'))) := fun q => by
        have hWq := (hW.below hb).below (below_drewN (Below.refl _ W1) q)
        have hBq := below_drewN (unhide B1) q
        obtain ⟨a', n', c', w', r, s1, s2, s3, s4⟩ := wy_step hWq hBq.size hy0 hws hwl (wayOf ys x)
        have hinr := hWq.inner _ _ _ hy0 hws
        refine ⟨a', n', c', w', r, s1, s2, ?_, _, by rw [etk, hsn]; exact s4, ?_⟩
        · have hne : (slv y0).ownBlock ≠ some eb := fun e => by
            have := ((hW.inner _ _ _ hy0 hws).lt eb e).2; omega
          have hbl := s3.block eb (show eb < (W1.drewN q).heap.size by show eb < W1.heap.size; omega) hne
          unfold World.cell? at k0 ⊢
          rw [hbl]; exact k0
        · have hb3 : Below w.heap.size w w' := hBq.trans (s3.below hBq.size (fun b e => (hinr.lt b e).1))
          exact hb3.setCell (p := ⟨g, plc ys x.2.1, none⟩) (hW.outer.lt g rfl).1 _
      have hcell : W1.cell? ⟨g, plc ys x.2.1, none⟩ = some (slv y0) := hdrow_at (hW.below hb).outer hy0
      have z1 : (i : Int) < (m : Int) := by omega
      have z2 : ((plc ys x.2.1 : Nat) : Int) < (n : Int) := by omega
      obtain ⟨j, hj⟩ : ∃ j, j = i + 1 := ⟨_, rfl⟩
      have zw : Hid (wrap64 ((i : Int) + 1) = (j : Int)) := by show wrap64 ((i : Int) + 1) = (j : Int); unfold wrap64; omega
      have HJ : Hid (j = i + 1 ∧ j ≤ m ∧ m - j < m - i) := ⟨hj, by omega, by omega⟩
      rw [← hj] at HST
      clear HP HI hW hB h1 h2 h3 h4 h5 h6 h7 h8 hrow hx i1 i2 i3 hb hfl hy0 hws hwl hsn etk him hlt hj hsz
      generalize plc ys x.2.1 = f0 at *
      generalize plc ys x.2.2.1 = t0 at *
      generalize wtN x = wt at *
      obtain ⟨xe, xu, xv, xb⟩ := x
      dsimp only at *
      obtain ⟨ya, yn, yc⟩ := y0
      unfold slv at *
      dsimp only at *
      go_upto_region 5 with fail
      rw [show wr.alloc (.cells #[.int .i64 xe, .int .i64 xu, .int .i64 xv, .int .u32 xb] 51) = W1 from (unhide HW1).symm, ← heb]
      clear HW1 d0 d1 d2 d3 heb
      have C10 := hide (unhide C1 0)
      rw [World.drewN_zero] at C10
      go_wp2_with fail
      refine (unhide C10).mono ?_
      rintro e w2 ⟨f2, rfl, q2, hw2⟩
      rw [hw2]
      clear C10 C1 hw2 w2
      go_wp2_with fail
      refine (unhide C2 _).mono ?_
      rintro e w3 ⟨f3, rfl, q3, hw3⟩
      rw [hw3]
      clear C2 hw3 w3
      go_wp2_with fail
      refine (unhide C3 _).mono ?_
      rintro e w4 ⟨rfl, hw4⟩
      rw [hw4]
      clear C3 hw4 w4
      obtain ⟨a', n', c', w5, r, s1, s2, s3, s4⟩ := unhide HST (q3 + 1)
      have HR := hide r
      have HN := hide s4
      have HA1 : Hid (((W1.drewN q3).drew.alloc (.cells #[.int .i64 xe, .int .i64 (t0 : Nat), .float .f32 wt] 130)).cell? ⟨g, f0, none⟩ = some (.slice ya yn yc) ∧ ((W1.drewN q3).drew.alloc (.cells #[.int .i64 xe, .int .i64 (t0 : Nat), .float .f32 wt] 130)).cell? ⟨eb, 0, none⟩ = some (.int .i64 xe)) := by
        have hb := below_new (W1.drewN q3).drew (.cells #[.int .i64 xe, .int .i64 (t0 : Nat), .float .f32 wt] 130)
        exact ⟨(hb.cell (p := ⟨g, f0, none⟩) (show g < W1.heap.size from cell_lt13 hcell)).trans hcell, (hb.cell (p := ⟨eb, 0, none⟩) (show eb < W1.heap.size from cell_lt13 k0)).trans k0⟩
      clear r s4 HST
      go_upto_region 8 with fail
      refine wp_region_noPanic ?_
      refine regionL [14] (fun y => y.cell? ⟨g, f0, none⟩ = some (.slice ya yn yc) ∧ y.cell? ⟨eb, 0, none⟩ = some (.int .i64 xe)) (by kernel_rfl) ⟨hcell, k0⟩ (fun hHeld => ?_)
      refine takeL (i := 0) (v := ?t2v0) (some 43) rfl rfl (by kernel_rfl) (by kernel_rfl) (by kernel_rfl) (by kernel_rfl) (by kernel_rfl) (fun _ _ _ h => h) (Or.inl ⟨by rfl, ?t2h0⟩) (by assumption) ?t2r0
      case t2h0 => (intro y hSu; (try dsimp only at hSu); go_simp; first | done | with_reducible rfl)
      (try simp only [Act.put, List.setIfInBounds_toArray, List.set_cons_zero, List.set_cons_succ])
      refine takeL (i := 1) (v := ?t2v1) (some 44) rfl rfl (by kernel_rfl) (by kernel_rfl) (by kernel_rfl) (by kernel_rfl) (by kernel_rfl) (fun _ _ _ h => h) (Or.inl ⟨by rfl, ?t2h1⟩) (by assumption) ?t2r1
      case t2h1 => (intro y hSu; (try dsimp only at hSu); go_simp; first | done | with_reducible rfl)
      (try simp only [Act.put, List.setIfInBounds_toArray, List.set_cons_zero, List.set_cons_succ])
      refine takeL (i := 2) (v := ?t2v2) (some 45) rfl rfl (by kernel_rfl) (by kernel_rfl) (by kernel_rfl) (by kernel_rfl) (by kernel_rfl) (fun _ _ _ h => h) (Or.inl ⟨by rfl, ?t2h2⟩) (by assumption) ?t2r2
      case t2h2 => (intro y hSu; (try dsimp only at hSu); go_simp; first | done | with_reducible rfl)
      (try simp only [Act.put, List.setIfInBounds_toArray, List.set_cons_zero, List.set_cons_succ])
      refine takeL (i := 3) (v := ?t2v3) (some 46) rfl rfl (by kernel_rfl) (by kernel_rfl) (by kernel_rfl) (by kernel_rfl) (by kernel_rfl) (fun _ _ _ h => h) (Or.inl ⟨by rfl, ?t2h3⟩) (by assumption) ?t2r3
      case t2h3 => (intro y hSu; (try dsimp only at hSu); go_simp; first | done | with_reducible rfl)
      (try simp only [Act.put, List.setIfInBounds_toArray, List.set_cons_zero, List.set_cons_succ])
      refine takeL (i := 4) (v := ?t2v4) (some 47) rfl rfl (by kernel_rfl) (by kernel_rfl) (by kernel_rfl) (by kernel_rfl) (by kernel_rfl) (fun _ _ _ h => h) (Or.inl ⟨by rfl, ?t2h4⟩) (by assumption) ?t2r4
      case t2h4 => (intro y hSu; (try dsimp only at hSu); go_simp; first | done | with_reducible rfl)
      (try simp only [Act.put, List.setIfInBounds_toArray, List.set_cons_zero, List.set_cons_succ])
      refine takeL (i := 5) (v := ?t2v5) (some 48) rfl rfl (by kernel_rfl) (by kernel_rfl) (by kernel_rfl) (by kernel_rfl) (by kernel_rfl) (fun _ _ _ h => h) (Or.inl ⟨by rfl, ?t2h5⟩) (by assumption) ?t2r5
      case t2h5 => (intro y hSu; (try dsimp only at hSu); go_simp; first | done | with_reducible rfl)
      (try simp only [Act.put, List.setIfInBounds_toArray, List.set_cons_zero, List.set_cons_succ])
      refine takeL (i := 6) (v := ?t2v6) (some 49) rfl rfl (by kernel_rfl) (by kernel_rfl) (by kernel_rfl) (by kernel_rfl) (by kernel_rfl) (fun _ _ _ h => h) (Or.inl ⟨by rfl, ?t2h6⟩) (by assumption) ?t2r6
      case t2h6 => (intro y hSu; (try dsimp only at hSu); go_simp; first | done | with_reducible rfl)
      (try simp only [Act.put, List.setIfInBounds_toArray, List.set_cons_zero, List.set_cons_succ])
      refine takeL (i := 7) (v := ?t2v7) (some 50) rfl rfl (by kernel_rfl) (by kernel_rfl) (by kernel_rfl) (by kernel_rfl) (by kernel_rfl) (fun _ _ _ h => h) (Or.inl ⟨by rfl, ?t2h7⟩) (by assumption) ?t2r7
      case t2h7 => (intro y hSu; (try dsimp only at hSu); go_simp; first | done | with_reducible rfl)
      (try simp only [Act.put, List.setIfInBounds_toArray, List.set_cons_zero, List.set_cons_succ])
      refine takeL (i := 8) (v := ?t2v8) (some 51) rfl rfl (by kernel_rfl) (by kernel_rfl) (by kernel_rfl) (by kernel_rfl) (by kernel_rfl) (fun _ _ _ h => h) (Or.inl ⟨by rfl, ?t2h8⟩) (by assumption) ?t2r8
      case t2h8 => (intro y hSu; (try dsimp only at hSu); go_simp; first | done | with_reducible rfl)
      (try simp only [Act.put, List.setIfInBounds_toArray, List.set_cons_zero, List.set_cons_succ])
      refine takeL (i := 9) (v := ?t2v9) (some 52) rfl rfl (by kernel_rfl) (by kernel_rfl) (by kernel_rfl) (by kernel_rfl) (by kernel_rfl) (fun _ _ _ h => h) (Or.inl ⟨by rfl, ?t2h9⟩) (by assumption) ?t2r9
      case t2h9 => (intro y hSu; (try dsimp only at hSu); go_simp; first | done | with_reducible rfl)
      (try simp only [Act.put, List.setIfInBounds_toArray, List.set_cons_zero, List.set_cons_succ])
      refine takeL (i := 10) (v := ?t2v10) (some 53) rfl rfl (by kernel_rfl) (by kernel_rfl) (by kernel_rfl) (by kernel_rfl) (by kernel_rfl) (fun _ _ _ h => h) (Or.inl ⟨by rfl, ?t2h10⟩) (by assumption) ?t2r10
      case t2h10 => (intro y hSu; (try dsimp only at hSu); go_simp; first | done | with_reducible rfl)
      (try simp only [Act.put, List.setIfInBounds_toArray, List.set_cons_zero, List.set_cons_succ])
      refine readyL (i := 11) (by kernel_rfl) rfl (fun K hK => ?_)
      go_simp
      refine hK.out _ _ (fun _ => (unhide HA1)) ?_
      clear hK K
      (try simp only [Act.put, List.setIfInBounds_toArray, List.set_cons_zero, List.set_cons_succ])
      have hH4 := (unhide HA1)
      refine readyL (i := 12) (by kernel_rfl) rfl (fun K hK => ?_)
      refine step_append_run rfl (.tmp 48) (.tmp 54) 128 rfl _ _ (by simp [Act.eval]; first | rfl | done) (by simp [Act.eval]; first | rfl | done) _ _ (unhide HR _) ?_
      refine hK.out _ _ (fun _ => (And.intro s1 s3)) ?_
      clear hK K
      (try simp only [Act.put, List.setIfInBounds_toArray])
      have hH5 := (And.intro s1 s3)
      refine takeL (i := 13) (v := ?t6v13) (some 56) rfl rfl (by kernel_rfl) (by kernel_rfl) (by kernel_rfl) (by kernel_rfl) (by kernel_rfl) (fun _ _ _ h => h) (Or.inl ⟨by rfl, ?t6h13⟩) (by assumption) ?t6r13
      case t6h13 => (intro y hSu; (try dsimp only at hSu); go_simp; first | done | with_reducible rfl)
      (try simp only [Act.put])
      refine readyL (i := 14) (by kernel_rfl) rfl (fun K hK => ?_)
      go_simp
      refine hK.out _ _ (fun h => by cases h) ?_
      clear hK K
      (try simp only [Act.put, List.setIfInBounds_toArray, List.set_cons_zero, List.set_cons_succ])
      refine doneL (by kernel_rfl) ?_ _
      refine NoPanic.normal ?_
      clear hHeld HR HA1 s1 s2 s3 hcell k0 k1 k2 k3
      go_wp2_with fail
      (try rw [unhide zw])
      exact ⟨⟨j, by first | rfl | (rw [(unhide HJ).1]; rfl), (unhide HJ).2.1, HN⟩, by have := unhide HJ; simp [intOf]; omega⟩
    · have z1 : ¬ (i : Int) < (m : Int) := by omega
      have HE : Hid (WysAns w ys es (.slice (some ⟨g, 0, none⟩) n n) wr) := by
        rw [List.take_of_length_le (by omega)] at hW
        exact ⟨xs, hW, hB⟩
      clear HP HI hW hB h1 h2 h3 h4 h5 h6 h7 h8 him hlt
      go_wp2_with fail
      go_ret
      exact ⟨_, _, _, rfl, HE⟩
end

end Go.Proofs.YtbmcibofecigeaaGreat
