/- Rows of numbers, and the reference's put. -/
import Derived.Test.YtdalghfhpekcfaaRefActs
namespace Go.Proofs.Ytdalghfhpekcfaa
open Go.RowKit Go.Shelf

/-- The cells of numbers. -/
def ints (l : List Int) : List Value := l.map fun x => .int .i64 x
theorem ints_length (l : List Int) : (ints l).length = l.length := by simp [ints]
theorem ints_append (a b : List Int) : ints (a ++ b) = ints a ++ ints b := by simp [ints]
theorem ints_one (l : List Int) : ∀ u ∈ ints l, u.oneCell' = true := by
  intro u hu
  simp only [ints, List.mem_map] at hu
  obtain ⟨x, -, rfl⟩ := hu
  rfl
theorem ints_at {l : List Int} {i : Nat} (h : i < l.length) : (ints l)[i]? = some (.int .i64 (l.getD i 0)) := by
  simp [ints, List.getD_eq_getElem?_getD, List.getElem?_eq_getElem h]
theorem info3 : (Try.prog.info? 3).map (fun i => (i.zero, i.size, i.bytes)) = some (some (.int .i64 0), 1, 8) := by kernel_rfl
theorem info3_parts : ∃ i, Try.prog.info? 3 = some i ∧ i.zero = some (.int .i64 0) ∧ i.size = 1 ∧ i.bytes = 8 := by
  have h := info3
  cases hi : Try.prog.info? 3 with
  | none => simp [hi] at h
  | some i =>
    simp [hi] at h
    exact ⟨i, rfl, h.1, h.2.1, h.2.2⟩

/-- Numbers that lie in a block of their own, at B or behind. -/
structure NewZ (B : Nat) (w0 w : World) (v : Value) (l : List Int) : Prop where
  row : w.ownsRow 0 3 1 v l.length (ints l)
  blk : ∀ k, v.ownBlock = some k → B ≤ k
  below : Below B w0 w
  size : B ≤ w.heap.size
theorem NewZ.nil (w : World) : NewZ w.heap.size w w (.slice none 0 0) [] := ⟨World.ownsRow_nil _ _ _ _, fun k hk => by simp [Value.ownBlock] at hk, Below.refl _ _, Nat.le_refl _⟩
theorem NewZ.step {B : Nat} {w0 w w' : World} {v : Value} {l : List Int} (h : NewZ B w0 w v l) (hb : Below w.heap.size w w') : NewZ B w0 w' v l :=
  ⟨row_below h.row hb, h.blk, h.below.trans (hb.mono h.size), Nat.le_trans h.size hb.size⟩
theorem NewZ.shape {B : Nat} {w0 W : World} {v : Value} {l : List Int} (h : NewZ B w0 W v l) : ∃ a c, v = .slice a l.length c := row_shape3 h.row
theorem ints_cells {w : World} {a : Option Addr} {n c : Nat} {l : List Int} (h : w.ownsRow 0 3 1 (.slice a n c) n (ints l)) : ∀ i, i < n → ∃ g, a = some ⟨g, 0, none⟩ ∧ g < w.heap.size ∧ w.cell? ⟨g, i, none⟩ = some (.int .i64 (l.getD i 0)) := by
  intro i hi
  have hl : l.length = n := by have := h.1; rw [ints_length] at this; omega
  have hc := @World.ownsRow.cells _ _ _ _ _ _ _ h
  rcases h.2 with ⟨-, h0⟩ | ⟨g, cap, cur, e, -, hg, -⟩
  · omega
  · cases e
    have f0 := hc rfl _ _ (ints_at (l := l) (i := i) (by omega))
    rw [add_g, Nat.zero_add] at f0
    exact ⟨g, rfl, (Array.getElem?_eq_some_iff.1 hg).1, f0⟩

theorem ints_none {w : World} {B n : Nat} {v : Value} {xs : List Value} (h : w.ownsRow B 3 1 v n xs) : (Builtin.append_ #[95, 95] 95 #[v, .slice none 0 0]).run Try.prog w = .ok v w := by
  obtain ⟨i0, hi0, -⟩ := info3_parts
  exact run_append_owned_none w B 95 95 3 i0 1 Try.underlying95 hi0 v n xs h

/-- The first i numbers, laid into a new list. -/
theorem headI {W : World} {g cap : Nat} {l : List Int} (h : W.ownsRow 0 3 1 (.slice (some ⟨g, 0, none⟩) l.length cap) l.length (ints l)) (hn : l.length ≤ 1000000) {i : Nat} (hi1 : i ≤ l.length) :
    ∃ a1 c1 w2, (Builtin.append_ #[95, 95] 95 #[.slice (some ⟨W.heap.size, 0, none⟩) 0 0, .slice (some ⟨g, 0, none⟩) i cap]).run Try.prog (W.alloc (.cells #[] 3)) = .ok (.slice a1 i c1) w2 ∧
      w2.ownsRow W.heap.size 3 1 (.slice a1 i c1) i (ints (l.take i)) ∧ Below W.heap.size W w2 := by
  obtain ⟨i0, hi0, hz0, hzs, hzb⟩ := info3_parts
  have hmade : (W.alloc (.cells #[] 3)).ownsRow W.heap.size 3 1 (.slice (some ⟨W.heap.size, 0, none⟩) 0 0) 0 [] := World.ownsRow_made W #[] 0 (Nat.le_refl _) (by unfold maxLen; omega) rfl
  have hlt : (l.take i).length = i := by simp; omega
  obtain ⟨v1, w2, hr1, hown1, hgr1, -⟩ := run_append_own (P := Try.prog) (W.alloc (.cells #[] 3)) W.heap.size 95 95 3 i0 _ 1 8 Try.underlying95 hi0 hz0 hzs hzb rfl (by omega) _ 0 [] hmade ⟨g, 0, none⟩ i cap (ints (l.take i)) (by rw [ints_length, hlt]; omega)
    (fun j u hj => by
      have hj1 : j < i := by have := (List.getElem?_eq_some_iff.1 hj).1; rw [ints_length, hlt] at this; exact this
      obtain ⟨g2, e, hg2, hc⟩ := ints_cells h j (by omega)
      cases e
      rw [ints_at (by omega)] at hj
      cases hj
      rw [add_g, Nat.zero_add]
      have e2 : (l.take i).getD j 0 = l.getD j 0 := by simp [List.getD_eq_getElem?_getD, List.getElem?_take_of_lt hj1]
      rw [e2]
      exact cell_old _ hc) (ints_one _) (by unfold maxLen; omega) (by omega) (by simp)
  rw [Nat.zero_add, List.nil_append] at hown1
  have b1 := ((Below.refl W.heap.size W).alloc (Nat.le_refl _) (.cells #[] 3)).grown hgr1 (by simp) (fun j hj => by simp [Value.ownBlock] at hj; omega)
  obtain ⟨a1, c1, rfl⟩ : ∃ a1 c1, v1 = .slice a1 i c1 := by
    rcases hown1.2 with ⟨rfl, h3⟩ | ⟨g', cap', cur', rfl, -⟩
    · exact ⟨none, 0, by rw [h3]⟩
    · exact ⟨_, _, rfl⟩
  exact ⟨a1, c1, w2, hr1, hown1, b1⟩

/-- One number more. -/
theorem oneI {w2 : World} {B n : Nat} {v1 : Value} {xs : List Int} (h1 : w2.ownsRow B 3 1 v1 n (ints xs)) (hx : n ≤ 1000000) (hB : B ≤ w2.heap.size) (x : Int) :
    ∃ a2 c2 w4, (Builtin.append_ #[95, 95] 95 #[v1, .slice (some ⟨w2.heap.size, 0, none⟩) 1 1]).run Try.prog (w2.alloc (.cells #[.int .i64 x] 3)) = .ok (.slice a2 (n + 1) c2) w4 ∧
      w4.ownsRow B 3 1 (.slice a2 (n + 1) c2) (n + 1) (ints (xs ++ [x])) ∧ Below B w2 w4 := by
  obtain ⟨i0, hi0, hz0, hzs, hzb⟩ := info3_parts
  obtain ⟨v2, w4, hr2, hown2, hgr2, -⟩ := run_append_own (P := Try.prog) (w2.alloc (.cells #[.int .i64 x] 3)) B 95 95 3 i0 _ 1 8 Try.underlying95 hi0 hz0 hzs hzb rfl (by omega) v1 n (ints xs) (h1.alloc _) ⟨w2.heap.size, 0, none⟩ 1 1 (ints [x]) rfl
    (fun j u hj => by
      have hj1 : j < 1 := by have := (List.getElem?_eq_some_iff.1 hj).1; simpa [ints] using this
      obtain rfl : j = 0 := by omega
      simp [ints] at hj
      subst hj
      rw [add_g]
      exact cell_box w2 _ 3) (ints_one _) (by unfold maxLen; omega) (by omega) (by simp; omega)
  obtain ⟨a2, c2, rfl⟩ : ∃ a2 c2, v2 = .slice a2 (n + 1) c2 := by
    rcases hown2.2 with ⟨rfl, h3⟩ | ⟨g', cap', cur', rfl, -⟩
    · omega
    · exact ⟨_, _, rfl⟩
  exact ⟨a2, c2, w4, hr2, by rw [ints_append]; exact hown2, ((Below.refl B w2).alloc hB _).grown hgr2 (by simp; omega) (fun j hj => (h1.lt j hj).1)⟩

/-- The numbers from t on, laid behind a list that lies from B on. -/
theorem tailI {w2 : World} {B n g cap : Nat} {v1 : Value} {xs l : List Int} (h1 : w2.ownsRow B 3 1 v1 n (ints xs)) (h : w2.ownsRow 0 3 1 (.slice (some ⟨g, 0, none⟩) l.length cap) l.length (ints l)) (hn : l.length ≤ 1000000) (hx : n ≤ 1000001) (hB : B ≤ w2.heap.size) {t : Nat} (ht : t ≤ l.length) :
    ∃ src a2 c2 w4, (if cap = t then (⟨g, 0, none⟩ : Addr) else ⟨g, t, none⟩) = src ∧
      (Builtin.append_ #[95, 95] 95 #[v1, .slice (some src) (l.length - t) (cap - t)]).run Try.prog w2 = .ok (.slice a2 (n + (l.length - t)) c2) w4 ∧
      w4.ownsRow B 3 1 (.slice a2 (n + (l.length - t)) c2) (n + (l.length - t)) (ints (xs ++ l.drop t)) ∧ Below B w2 w4 := by
  obtain ⟨i0, hi0, hz0, hzs, hzb⟩ := info3_parts
  have hLc : l.length ≤ cap := by
    rcases h.2 with ⟨e, -⟩ | ⟨g', cap', cur', e, -, hgg, h1, h2, -⟩
    · cases e
    · cases e; exact h1
  have hld : (l.drop t).length = l.length - t := by simp
  obtain ⟨src, hsrc, hsc⟩ : ∃ src : Addr, (if cap = t then (⟨g, 0, none⟩ : Addr) else ⟨g, t, none⟩) = src ∧ ∀ j u, (ints (l.drop t))[j]? = some u → w2.cell? (src.add j) = some u := by
    refine ⟨_, rfl, fun j u hj => ?_⟩
    have hj1 : j < l.length - t := by have := (List.getElem?_eq_some_iff.1 hj).1; rw [ints_length, hld] at this; exact this
    rw [if_neg (by omega), add_g]
    rw [ints_at (by omega)] at hj
    cases hj
    obtain ⟨g2, e, hg2, hc⟩ := ints_cells h (t + j) (by omega)
    cases e
    have e2 : (l.drop t).getD j 0 = l.getD (t + j) 0 := by simp [List.getD_eq_getElem?_getD, List.getElem?_drop]
    rw [e2]
    exact hc
  obtain ⟨v2, w4, hr2, hown2, hgr2, -⟩ := run_append_own (P := Try.prog) w2 B 95 95 3 i0 _ 1 8 Try.underlying95 hi0 hz0 hzs hzb rfl (by omega) v1 n (ints xs) h1 src (l.length - t) (cap - t) (ints (l.drop t)) (by rw [ints_length, hld]; omega) hsc (ints_one _) (by unfold maxLen; omega) (by omega) hB
  obtain ⟨a2, c2, rfl⟩ : ∃ a2 c2, v2 = .slice a2 (n + (l.length - t)) c2 := by
    rcases hown2.2 with ⟨rfl, h3⟩ | ⟨g', cap', cur', rfl, -⟩
    · exact ⟨none, 0, by rw [h3]⟩
    · exact ⟨_, _, rfl⟩
  exact ⟨src, a2, c2, w4, hsrc, hr2, by rw [ints_append]; exact hown2, (Below.refl B w2).grown hgr2 hB (fun j hj => (h1.lt j hj).1)⟩

/-- x put into l. -/
structure PutIn (l : List Int) (x : Int) (l' : List Int) : Prop where
  rise : Rise l'
  mem : ∀ y, y ∈ l' ↔ y = x ∨ y ∈ l
  len : l'.length ≤ l.length + 1

set_option maxHeartbeats 1000000 in
set_option maxRecDepth 100000 in
theorem refPutNil {B : Nat} {w0 : World} (x : Int) (w : World) (hb : Below B w0 w) (hB : B ≤ w.heap.size) :
    Calls Try.prog 71 #[.slice none 0 0, .int .i64 x] w fun e w' => ∃ v' l', e = .returned v' ∧ Hid (NewZ B w0 w' v' l' ∧ PutIn [] x l' ∧ Below w.heap.size w w') := by
  have hmade : (w.alloc (.cells #[] 3)).ownsRow w.heap.size 3 1 (.slice (some ⟨w.heap.size, 0, none⟩) 0 0) 0 (ints []) := World.ownsRow_made w #[] 0 (Nat.le_refl _) (by unfold maxLen; omega) rfl
  have R1 := hide (ints_none hmade)
  obtain ⟨a2, c2, w4, r2, o2, b2⟩ := oneI (w2 := w.alloc (.cells #[] 3)) hmade (by omega) (by simp) x
  rw [show (w.alloc (.cells #[] 3)).heap.size = w.heap.size + 1 from Array.size_push ..] at r2
  rw [Nat.zero_add] at r2 o2
  have R2 := hide r2
  have R3 := hide (ints_none o2)
  have HE : Hid (NewZ B w0 w4 (.slice a2 1 c2) [x] ∧ PutIn [] x [x] ∧ Below w.heap.size w w4) := by
    have hs := b2.size
    simp only [World.alloc, Array.size_push] at hs
    have b3 : Below w.heap.size w w4 := ((Below.refl w.heap.size w).alloc (Nat.le_refl _) _).trans b2
    refine ⟨⟨?_, fun k hk => Nat.le_trans hB (o2.lt k hk).1, hb.trans (b3.mono hB), by omega⟩, ⟨fun i j h1 h2 => by simp at h2; omega, fun y => by simp, by simp⟩, b3⟩
    exact ⟨o2.1, o2.2.imp id (fun ⟨g, cap, cur, e, _, rest⟩ => ⟨g, cap, cur, e, Nat.zero_le _, rest⟩)⟩
  clear hmade r2 o2 b2 hb hB
  go_enter Try.func71, Try.ntmps71
  go_wp2_with fail
  refine wp_loop_rounds 1 ?_
  rw [rounds_succ]
  go_wp2_with (at_builtin; first | refine Lib.wpList_append_run _ rfl _ _ 95 95 rfl (.slice (some ⟨w.heap.size, 0, none⟩) 0 0) (.slice none 0 0) rfl rfl _ _ R1.out ?_ | refine Lib.wpList_append_run _ rfl _ _ 95 95 rfl (.slice (some ⟨w.heap.size, 0, none⟩) 0 0) (.slice (some ⟨w.heap.size + 1, 0, none⟩) 1 1) rfl rfl _ _ R2.out ?_ | refine Lib.wpList_append_run _ rfl _ _ 95 95 rfl (.slice a2 1 c2) (.slice none 0 0) rfl rfl _ _ R3.out ?_)
  go_ret
  exact ⟨_, [x], rfl, HE⟩

/-- What the three appends of put do, k numbers being below x. -/
theorem putRuns {B : Nat} {w0 w : World} {g cap k : Nat} {l : List Int} (h : NewZ B w0 w (.slice (some ⟨g, 0, none⟩) l.length cap) l) (hr : Rise l) (hn : l.length ≤ 1000000) (hk : k ≤ l.length) (x : Int) (h1 : ∀ j, j < k → l.getD j 0 < x) (h2 : k < l.length → x < l.getD k 0) :
    ∃ a1 c1 w2 a2 c2 w4 src a3 c3 w6, Hid ((Builtin.append_ #[95, 95] 95 #[.slice (some ⟨w.heap.size, 0, none⟩) 0 0, .slice (some ⟨g, 0, none⟩) k cap]).run Try.prog (w.alloc (.cells #[] 3)) = .ok (.slice a1 k c1) w2) ∧
      Hid ((Builtin.append_ #[95, 95] 95 #[.slice a1 k c1, .slice (some ⟨w2.heap.size, 0, none⟩) 1 1]).run Try.prog (w2.alloc (.cells #[.int .i64 x] 3)) = .ok (.slice a2 (k + 1) c2) w4) ∧
      (if cap = k then (⟨g, 0, none⟩ : Addr) else ⟨g, k, none⟩) = src ∧
      Hid ((Builtin.append_ #[95, 95] 95 #[.slice a2 (k + 1) c2, .slice (some src) (l.length - k) (cap - k)]).run Try.prog w4 = .ok (.slice a3 (k + 1 + (l.length - k)) c3) w6) ∧
      Hid (∃ l', NewZ B w0 w6 (.slice a3 (k + 1 + (l.length - k)) c3) l' ∧ PutIn l x l' ∧ Below w.heap.size w w6) := by
  obtain ⟨a1, c1, w2, r1, o1, b1⟩ := headI h.row hn hk
  obtain ⟨a2, c2, w4, r2, o2, b2⟩ := oneI o1 (by omega) b1.size x
  have b3 : Below w.heap.size w w4 := b1.trans b2
  obtain ⟨src, a3, c3, w6, hs, r3, o3, b4⟩ := tailI o2 (row_below h.row b3) hn (by omega) b3.size hk
  refine ⟨a1, c1, w2, a2, c2, w4, src, a3, c3, w6, r1, r2, hs, r3, l.take k ++ [x] ++ l.drop k, ?_, ?_, b3.trans b4⟩
  · have b5 := b3.trans b4
    have hl : (l.take k ++ [x] ++ l.drop k).length = k + 1 + (l.length - k) := by simp; omega
    refine ⟨?_, fun j hj => Nat.le_trans h.size (o3.lt j hj).1, h.below.trans (b5.mono h.size), Nat.le_trans h.size b5.size⟩
    rw [hl]
    exact ⟨o3.1, o3.2.imp id (fun ⟨g, cap, cur, e, _, rest⟩ => ⟨g, cap, cur, e, Nat.zero_le _, rest⟩)⟩
  · exact ⟨rise_put hr hk h1 h2, fun y => mem_put, by simp; omega⟩

set_option maxHeartbeats 2000000 in
set_option maxRecDepth 100000 in
theorem refPutSome {B : Nat} {w0 : World} {g cap : Nat} {l : List Int} (x : Int) (w : World) (h : NewZ B w0 w (.slice (some ⟨g, 0, none⟩) l.length cap) l) (hr : Rise l) (hn : l.length ≤ 1000000) :
    Calls Try.prog 71 #[.slice (some ⟨g, 0, none⟩) l.length cap, .int .i64 x] w fun e w' => ∃ v' l', e = .returned v' ∧ Hid (NewZ B w0 w' v' l' ∧ PutIn l x l' ∧ Below w.heap.size w w') := by
  have hLc : l.length ≤ cap := by
    rcases h.row.2 with ⟨e, -⟩ | ⟨g', cap', cur', e, -, hgg, h1, h2, -⟩
    · cases e
    · cases e; exact h1
  have HC : Hid (∀ i, i < l.length → w.cell? ⟨g, i, none⟩ = some (.int .i64 (l.getD i 0))) := fun i hi => by
    obtain ⟨g2, e, -, hc⟩ := ints_cells h.row i hi
    cases e
    exact hc
  have HP : Hid (∀ k, k ≤ l.length → (∀ j, j < k → l.getD j 0 < x) → (k < l.length → x < l.getD k 0) → _) := fun k hk h1 h2 => putRuns h hr hn hk x h1 h2
  have HS : Hid (∀ k, k < l.length → l.getD k 0 = x → NewZ B w0 w (.slice (some ⟨g, 0, none⟩) l.length cap) l ∧ PutIn l x l ∧ Below w.heap.size w w) := fun k hk e => ⟨h, ⟨hr, fun y => ⟨fun hy => .inr hy, fun hy => hy.elim (fun e2 => by rw [e2, ← e]; exact getD_mem hk) id⟩, by omega⟩, Below.refl _ _⟩
  have hL6 : (l.length : Int) ≤ 1000000 := by omega
  generalize hL : l.length = L at *
  clear h hn hr hL
  go_enter Try.func71, Try.ntmps71
  go_wp2_with fail
  go_loopw [5] (fun s5 wr => ∃ k : Nat, k ≤ L ∧ s5 = .int .i64 k ∧ wr = w ∧ Hid (∀ j, j < k → l.getD j 0 < x)) (fun s5 _ => L - (intOf s5).toNat)
  case atStart => exact ⟨0, Nat.zero_le _, rfl, rfl, fun j hj => absurd hj (Nat.not_lt_zero _)⟩
  case round =>
    obtain ⟨k, hk, rfl, rfl, HI⟩ := hrel
    by_cases hlt : k < L
    · have hltz : (k : Int) < (L : Int) := by omega
      have c0 := unhide HC k hlt
      have HZ : Hid (l.getD k 0 < x → ∀ j, j < k + 1 → l.getD j 0 < x) := fun h j hj => by
        rcases Nat.lt_or_ge j k with h2 | h2
        · exact unhide HI j h2
        · rw [show j = k by omega]; exact h
      have HQ : Hid (x < l.getD k 0 → _) := fun h => unhide HP k hk (unhide HI) (fun _ => h)
      have HSS : Hid (l.getD k 0 = x → _) := unhide HS k hlt
      clear HP HS HC HI
      generalize l.getD k 0 = z at *
      rcases Int.lt_trichotomy z x with hz | hz | hz
      · clear HQ HSS
        go_wp2_with fail
        go_roundw
        case rel => exact ⟨k + 1, by omega, by go_num, by first | exact rfl | exact trivial, unhide HZ hz⟩
        case measure => first | (simp [intOf]; done) | (simp [intOf]; omega)
      · have HE := hide (unhide HSS hz)
        subst hz
        clear HQ HSS HZ
        go_wp2_with fail
        go_ret
        first | exact ⟨_, l, rfl, HE⟩ | exact ⟨_, rfl, l, HE⟩
      · obtain ⟨a1, c1, w2, a2, c2, w4, src, a3, c3, w6, R1, R2, hsrc, R3, HE⟩ := unhide HQ hz
        have hzn : ¬ z < x := by omega
        have hze : (z == x) = false := by simp; omega
        have hck : k ≤ cap := by omega
        have hckz : (k : Int) ≤ (cap : Int) := by omega
        have hkL : (k : Int) ≤ (L : Int) := by omega
        have hLcz : (L : Int) ≤ (cap : Int) := by omega
        have hnc : ¬ cap = k := by omega
        rw [if_neg hnc] at hsrc
        subst hsrc
        clear HQ HSS HZ
        go_wp2_with (at_builtin; first | refine Lib.wpList_append_run _ rfl _ _ 95 95 rfl (.slice (some ⟨wr.heap.size, 0, none⟩) 0 0) (.slice (some ⟨g, 0, none⟩) k cap) rfl rfl _ _ R1.out ?_ | refine Lib.wpList_append_run _ rfl _ _ 95 95 rfl (.slice a1 k c1) (.slice (some ⟨w2.heap.size, 0, none⟩) 1 1) rfl rfl _ _ R2.out ?_ | refine Lib.wpList_append_run _ rfl _ _ 95 95 rfl (.slice a2 (k + 1) c2) (.slice (some ⟨g, k, none⟩) (L - k) (cap - k)) rfl rfl _ _ R3.out ?_)
        go_ret
        obtain ⟨l', hl'⟩ := unhide HE
        first | exact ⟨_, l', rfl, hl'⟩ | exact ⟨_, rfl, l', hl'⟩
    · obtain rfl : k = L := by omega
      obtain ⟨a1, c1, w2, a2, c2, w4, src, a3, c3, w6, R1, R2, hsrc, R3, HE⟩ := unhide HP k hk (unhide HI) (fun h => absurd h hlt)
      have hck : k ≤ cap := by omega
      have hckz : (k : Int) ≤ (cap : Int) := by omega
      rw [Nat.sub_self] at R3 HE
      clear HP HS HC HI
      by_cases hcap : cap = k
      · rw [if_pos hcap] at hsrc
        subst hsrc
        subst hcap
        rw [Nat.sub_self] at R3
        go_wp2_with (at_builtin; first | refine Lib.wpList_append_run _ rfl _ _ 95 95 rfl (.slice (some ⟨wr.heap.size, 0, none⟩) 0 0) (.slice (some ⟨g, 0, none⟩) cap cap) rfl rfl _ _ R1.out ?_ | refine Lib.wpList_append_run _ rfl _ _ 95 95 rfl (.slice a1 cap c1) (.slice (some ⟨w2.heap.size, 0, none⟩) 1 1) rfl rfl _ _ R2.out ?_ | refine Lib.wpList_append_run _ rfl _ _ 95 95 rfl (.slice a2 (cap + 1) c2) (.slice (some ⟨g, 0, none⟩) 0 0) rfl rfl _ _ R3.out ?_)
        go_ret
        obtain ⟨l', hl'⟩ := unhide HE
        first | exact ⟨_, l', rfl, hl'⟩ | exact ⟨_, rfl, l', hl'⟩
      · rw [if_neg hcap] at hsrc
        subst hsrc
        go_wp2_with (at_builtin; first | refine Lib.wpList_append_run _ rfl _ _ 95 95 rfl (.slice (some ⟨wr.heap.size, 0, none⟩) 0 0) (.slice (some ⟨g, 0, none⟩) k cap) rfl rfl _ _ R1.out ?_ | refine Lib.wpList_append_run _ rfl _ _ 95 95 rfl (.slice a1 k c1) (.slice (some ⟨w2.heap.size, 0, none⟩) 1 1) rfl rfl _ _ R2.out ?_ | refine Lib.wpList_append_run _ rfl _ _ 95 95 rfl (.slice a2 (k + 1) c2) (.slice (some ⟨g, k, none⟩) 0 (cap - k)) rfl rfl _ _ R3.out ?_)
        go_ret
        obtain ⟨l', hl'⟩ := unhide HE
        first | exact ⟨_, l', rfl, hl'⟩ | exact ⟨_, rfl, l', hl'⟩

theorem refPut {B : Nat} {w0 : World} {v : Value} {l : List Int} (x : Int) (w : World) (h : NewZ B w0 w v l) (hr : Rise l) (hn : l.length ≤ 1000000) :
    Calls Try.prog 71 #[v, .int .i64 x] w fun e w' => ∃ v' l', e = .returned v' ∧ Hid (NewZ B w0 w' v' l' ∧ PutIn l x l' ∧ Below w.heap.size w w') := by
  rcases h.row.2 with ⟨rfl, h0⟩ | ⟨g, cap, cur, rfl, -⟩
  · obtain rfl : l = [] := List.eq_nil_of_length_eq_zero h0
    exact refPutNil x w h.below h.size
  · exact refPutSome x w h hr hn
end Go.Proofs.Ytdalghfhpekcfaa
