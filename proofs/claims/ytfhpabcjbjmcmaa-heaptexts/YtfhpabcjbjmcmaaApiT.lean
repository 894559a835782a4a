/- New, Len, Peek, Pop, Lower, Get: texts as keys, ranks of two numbers, an order that says nothing. -/
import Derived.Test.YtfhpabcjbjmcmaaPushT
import Derived.Test.YtfhpabcjbjmcmaaRemoveT
import Derived.Laws.ResultCell
import Derived.Deep.MidRow
namespace Go.Proofs.Ytfhpabcjbjmcmaa
open Go.RowKit Go.Maps

theorem equalIn_nil {P : Program} (w : World) (d : Nat) (t : TypeId) (ps rs : Array TypeId) (vr : Bool) (h : P.underlying t = some (.func ps rs vr)) :
    (Op.equalIn (d + 1) t .nilFunc .nilFunc).run P w = .ok true w := by
  simp [Op.equalIn, run_underlying h]
theorem eql_nil75 (w : World) : (binOp .eql 75 .nilFunc .nilFunc).run Try.prog w = .ok (.bool true) w := by
  simp only [binOp]
  simp [Op.equal, Op.maxDepth, equalIn_nil w 9999 75 _ _ _ Try.underlying75]

set_option maxHeartbeats 400000 in
set_option maxRecDepth 100000 in
theorem newT [Inhabited EntT] (w : World) :
    Calls Try.prog 18 #[.nilFunc] w fun e w' => e = .returned (.pointer (some ⟨w.heap.size + 1, 0, none⟩)) ∧ Hid (HAtT w' (w.heap.size + 1) w.heap.size (.func (.func 43) #[] #[]) (.slice none 0 0) [] 0 ∧ Below w.heap.size w w') := by
  have hmm := @run_makeMap Try.prog
  have hnil := eql_nil75
  have HA : Hid (HAtT ((w.alloc (.map #[] 0)).alloc (.cells #[.func (.func 43) #[] #[], .slice none 0 0, .map (some w.heap.size), .int .i64 0] 79)) (w.heap.size + 1) w.heap.size (.func (.func 43) #[] #[]) (.slice none 0 0) [] 0 ∧ Below w.heap.size w ((w.alloc (.map #[] 0)).alloc (.cells #[.func (.func 43) #[] #[], .slice none 0 0, .map (some w.heap.size), .int .i64 0] 79))) := by
    refine ⟨⟨?_, World.ownsRow_nil _ _ _ _, ⟨.map [], (World.ownsMap_made w _ _ _).alloc _, ?_⟩, fun i hi => by simp at hi, by simp [Value.ownBlock], by simp [Value.ownBlock], by omega⟩, ((Below.refl _ _).alloc (Nat.le_refl _) _).alloc (by simp) _⟩
    · have := heap_alloc_new (w.alloc (.map #[] 0)) (.cells #[.func (.func 43) #[] #[], .slice none 0 0, .map (some w.heap.size), .int .i64 0] 79)
      have e : (w.alloc (.map #[] 0)).heap.size = w.heap.size + 1 := by simp
      rw [e] at this
      exact this
    · exact ⟨tidy_empty, List.Pairwise.nil, rfl, fun i hi => by simp at hi, fun k hk => by simp [Maps.has] at hk⟩
  go_enter Try.func18, Try.ntmps18
  go_wp2
  go_ret
  exact ⟨by simp, unhide HA⟩

set_option maxHeartbeats 400000 in
theorem lenT [Inhabited EntT] {p m : Nat} {lv v : Value} {es : List EntT} {n : Nat} (w : World) (h : HAtT w p m lv v es n) : Calls Try.prog 23 #[.pointer (some ⟨p, 0, none⟩)] w fun e w' => e = .returned (.int .i64 es.length) ∧ w' = w := by
  have c1 := h.cells.2.1
  obtain ⟨ao, c0, rfl⟩ : ∃ ao c0, v = .slice ao es.length c0 := by
    rcases h.row.2 with ⟨rfl, h3⟩ | ⟨g, cap, cur, rfl, -⟩
    · exact ⟨none, 0, by rw [h3]⟩
    · exact ⟨_, _, rfl⟩
  clear h
  go_enter Try.func23, Try.ntmps23
  go_wp2
  go_ret
  exact ⟨rfl, rfl⟩

/-- A rank's two cells, as a value. -/
theorem load42 (w : World) (g : Nat) (x y : Value) (c0 : w.cell? ⟨g, 0, none⟩ = some x) (c1 : w.cell? ⟨g, 1, none⟩ = some y) : (loadVar 42 ⟨g, 0, none⟩).run Try.prog w = .ok (.agg #[x, y]) w :=
  run_loadVar_mid (P := Try.prog) w g 0 42 [x, y] _ (fun j v hj => by
    match j with
    | 0 => simp at hj; subst hj; exact c0
    | 1 => simp at hj; subst hj; exact c1
    | j + 2 => simp at hj) Try.underlying42 rfl (by kernel_rfl)
theorem resG {fn : Func} {p u : Tmp} (h : fn.results = #[.cell p 42, .tmp u]) (tmps : Array Value) (w : World) (g : Nat) (x y : Value) (hp : tmps.getD p undef = .pointer (some ⟨g, 0, none⟩)) (c : w.cell? ⟨g, 0, none⟩ = some x ∧ w.cell? ⟨g, 1, none⟩ = some y) :
    (results fn tmps).run Try.prog w = .ok (.tuple #[.agg #[x, y], tmps.getD u undef]) w := by
  rw [results_cell_tmp h, hp]
  simp only [asAddr, Sem.run_pure, Result.andThen_ok, load42 w g x y c.1 c.2]
theorem results_tct {fn : Func} {t p u : Tmp} {ty : TypeId} (h : fn.results = #[.tmp t, .cell p ty, .tmp u]) (tmps : Array Value) (P : Program) (w : World) :
    (results fn tmps).run P w = ((asAddr (tmps.getD p undef)).run P w).andThen fun a w₁ => ((loadVar ty a).run P w₁).andThen fun v w₂ => .ok (.tuple #[tmps.getD t undef, v, tmps.getD u undef]) w₂ := by
  simp only [results, h]
  simp [Sem.run_bind, Result.andThen]
theorem resP {fn : Func} {t p u : Tmp} (h : fn.results = #[.tmp t, .cell p 42, .tmp u]) (tmps : Array Value) (w : World) (g : Nat) (x y : Value) (hp : tmps.getD p undef = .pointer (some ⟨g, 0, none⟩)) (c : w.cell? ⟨g, 0, none⟩ = some x ∧ w.cell? ⟨g, 1, none⟩ = some y) :
    (results fn tmps).run Try.prog w = .ok (.tuple #[tmps.getD t undef, .agg #[x, y], tmps.getD u undef]) w := by
  rw [results_tct h, hp]
  simp only [asAddr, Sem.run_pure, Result.andThen_ok, load42 w g x y c.1 c.2]
theorem cells2 (w : World) (x y : Value) (t : TypeId) : (w.alloc (.cells #[x, y] t)).cell? ⟨w.heap.size, 0, none⟩ = some x ∧ (w.alloc (.cells #[x, y] t)).cell? ⟨w.heap.size, 1, none⟩ = some y := by
  constructor <;> rw [World.cell?_alloc_at _ _ _ _ (by simp)] <;> rfl
theorem belowBox (w : World) (o : Obj) : Below w.heap.size w (w.alloc o).drew := ((Below.refl _ _).alloc (Nat.le_refl _) _).drew

set_option maxHeartbeats 400000 in
set_option maxRecDepth 100000 in
theorem peekNoneT [Inhabited EntT] {p m : Nat} {lv v : Value} {n : Nat} (w : World) (h : HAtT w p m lv v [] n) : Calls Try.prog 45 #[.pointer (some ⟨p, 0, none⟩)] w fun e w' => e = .returned (.tuple #[.string ByteArray.empty, .agg #[.int .i64 0, .int .i64 0], .bool false]) ∧ Below w.heap.size w w' := by
  have c1 := h.cells.2.1
  have hpl := h.lt (.inl rfl)
  obtain ⟨ao, c0, rfl⟩ : ∃ ao c0, v = .slice ao 0 c0 := by
    rcases h.row.2 with ⟨rfl, h3⟩ | ⟨g, cap, cur, rfl, -⟩
    · exact ⟨none, 0, rfl⟩
    · exact ⟨_, _, rfl⟩
  clear h
  go_enter Try.func45, Try.ntmps45
  go_wp2_with fail
  go_region
  all_goals
    go_wp2_with fail
    refine bodyPost_ret (resP rfl _ _ w.heap.size _ _ rfl (cells2 _ _ _ _)) rfl ?_
    exact ⟨rfl, belowBox _ _⟩

set_option maxHeartbeats 1000000 in
set_option maxRecDepth 100000 in
theorem peekSomeT [Inhabited EntT] {p m : Nat} {lv v : Value} {es : List EntT} {n : Nat} (w : World) (h : HAtT w p m lv v es n) (h0 : 0 < es.length) :
    Calls Try.prog 45 #[.pointer (some ⟨p, 0, none⟩)] w fun e w' => e = .returned (.tuple #[.string (at_ es 0).key, .agg #[.int .i64 (at_ es 0).rank.1, .int .i64 (at_ es 0).rank.2], .bool true]) ∧ Below w.heap.size w w' := by
  have c1 := h.cells.2.1
  have hpl := h.lt (.inl rfl)
  obtain ⟨b, c, rfl, -, -, -, -, -, hc⟩ := h.some_ h0
  have hbl : b < w.heap.size := h.lt (.inr (.inr rfl))
  have d1 := (hc 0 h0).1
  have d2 := (hc 0 h0).2.1
  have d3 := (hc 0 h0).2.2.1
  rw [Nat.zero_mul] at d1 d2 d3
  have hz : (0 : Int) < (es.length : Int) := by omega
  have hz2 : ((es.length : Int) == 0) = false := by simp; intro e; rw [e] at h0; simp at h0
  generalize (at_ es 0).key = kk at *
  generalize (at_ es 0).rank = rr at *
  generalize es.length = L at *
  clear h hc
  go_enter Try.func45, Try.ntmps45
  go_wp2_with fail
  go_region
  all_goals
    go_wp2_with fail
    refine bodyPost_ret (resP rfl _ _ w.heap.size _ _ rfl (cells2 _ _ _ _)) rfl ?_
    exact ⟨rfl, belowBox _ _⟩

theorem put2 {w : World} {g : Nat} {x0 y0 : Value} (c : w.cell? ⟨g, 0, none⟩ = some x0 ∧ w.cell? ⟨g, 1, none⟩ = some y0) (x y : Value) :
    ((w.setCell ⟨g, 0, none⟩ x).setCell ⟨g, 1, none⟩ y).cell? ⟨g, 0, none⟩ = some x ∧ ((w.setCell ⟨g, 0, none⟩ x).setCell ⟨g, 1, none⟩ y).cell? ⟨g, 1, none⟩ = some y := by
  constructor
  · rw [World.cell?_setCell_other _ _ _ _ (by simp)]
    exact World.cell?_setCell_same _ _ _ c.1
  · exact World.cell?_setCell_same _ _ _ ((World.cell?_setCell_other _ _ _ _ (by simp)).trans c.2)
theorem below2 {B : Nat} {w w3 : World} {g : Nat} (h : Below B w w3) (hg : B ≤ g) (x y : Value) : Below B w ((w3.setCell ⟨g, 0, none⟩ x).setCell ⟨g, 1, none⟩ y) := (h.setCell (p := ⟨g, 0, none⟩) hg _).setCell (p := ⟨g, 1, none⟩) hg _

/-- A result's block, kept by a call. -/
theorem keptBox {w w' : World} {x y : Value} (hb : Below (w.alloc (.cells #[x, y] 42)).heap.size (w.alloc (.cells #[x, y] 42)) w') :
    Below w.heap.size w w' ∧ w'.cell? ⟨w.heap.size, 0, none⟩ = some x ∧ w'.cell? ⟨w.heap.size, 1, none⟩ = some y ∧ ∀ o, w'.frozen? ⟨w.heap.size, o, none⟩ = false := by
  have h1 := heap_alloc_new w (.cells #[x, y] 42)
  have h2 : w'.heap[w.heap.size]? = some (.cells #[x, y] 42 (0, 0)) := (hb.block _ (by simp)).trans h1
  refine ⟨((Below.refl _ _).alloc (Nat.le_refl _) _).trans (hb.mono (by simp)), ?_, ?_, fun o => frozen_of_row _ _ o _ _ h2⟩
  · rw [cell_of_row _ _ _ _ _ _ h2]; rfl
  · rw [cell_of_row _ _ _ _ _ _ h2]; rfl

set_option maxHeartbeats 1000000 in
set_option maxRecDepth 100000 in
theorem popNoneT [Inhabited EntT] {p m : Nat} {lv v : Value} {n : Nat} (w : World) (h : HAtT w p m lv v [] n) : Calls Try.prog 22 #[.pointer (some ⟨p, 0, none⟩)] w fun e w' => e = .returned (.tuple #[.string ByteArray.empty, .agg #[.int .i64 0, .int .i64 0], .bool false]) ∧ Below w.heap.size w w' := by
  have HC := hide (peekNoneT (w.alloc (.cells #[.int .i64 0, .int .i64 0] 42)) (h.below ((Below.refl _ _).alloc (Nat.le_refl _) _)))
  clear h
  go_enter Try.func22, Try.ntmps22
  go_wp2_with fail
  refine (unhide HC).mono ?_
  rintro e w' ⟨rfl, hb⟩
  obtain ⟨hb, k0, k1, kf⟩ := keptBox hb
  have HB := hide hb
  clear hb HC
  go_wp2_with fail
  go_region
  all_goals
    go_wp2_with fail
    refine bodyPost_ret (resP rfl _ _ w.heap.size _ _ rfl (put2 (put2 ⟨k0, k1⟩ _ _) _ _)) rfl ?_
    exact ⟨rfl, (below2 (below2 (unhide HB) (Nat.le_refl _) _ _) (Nat.le_refl _) _ _).drew⟩

set_option maxHeartbeats 1000000 in
set_option maxRecDepth 100000 in
theorem popSomeT [Inhabited EntT] {p m : Nat} {lv v : Value} {es : List EntT} {n : Nat} (w : World) (h : HAtT w p m lv v es n) (hl : LessF lv) (h0 : 0 < es.length) (hn : es.length ≤ 1099511627776) :
    Calls Try.prog 22 #[.pointer (some ⟨p, 0, none⟩)] w fun e w' => e = .returned (.tuple #[.string (at_ es 0).key, .agg #[.int .i64 (at_ es 0).rank.1, .int .i64 (at_ es 0).rank.2], .bool true]) ∧ Hid (∃ v' es', es'.Perm (without (at_ es 0).key es) ∧ HAtT w' p m lv v' es' n ∧ Turned (Foot p m v) w w' ∧ v'.ownBlock = v.ownBlock ∧
      (HeapOrd (le g0) es → HeapOrd (le g0) es')) := by
  have HC := hide (peekSomeT (w.alloc (.cells #[.int .i64 0, .int .i64 0] 42)) (h.below ((Below.refl _ _).alloc (Nat.le_refl _) _)) h0)
  have HR : Hid (∀ (w' : World) (x y : Value), Below w.heap.size w w' → w.heap.size < w'.heap.size → w'.cell? ⟨w.heap.size, 0, none⟩ = some (.int .i64 0) → w'.cell? ⟨w.heap.size, 1, none⟩ = some (.int .i64 0) → (∀ o, w'.frozen? ⟨w.heap.size, o, none⟩ = false) →
      Calls Try.prog 46 #[.pointer (some ⟨p, 0, none⟩), .int .i64 0] ((w'.setCell ⟨w.heap.size, 0, none⟩ x).setCell ⟨w.heap.size, 1, none⟩ y) fun e w2 => e = .returned (.tuple #[]) ∧ Hid (∃ v' es', es'.Perm (without (at_ es 0).key es) ∧ HAtT w2 p m lv v' es' n ∧ Turned (Foot p m v) w w2 ∧ v'.ownBlock = v.ownBlock ∧ (HeapOrd (le g0) es → HeapOrd (le g0) es')) ∧
        (∀ k, Foot p m v k → k < w.heap.size) ∧ w2.cell? ⟨w.heap.size, 0, none⟩ = some x ∧ w2.cell? ⟨w.heap.size, 1, none⟩ = some y ∧ ∀ o, w2.frozen? ⟨w.heap.size, o, none⟩ = false) := fun w' x y hb hs k0 k1 kf => by
    have hb2 := below2 hb (Nat.le_refl _) x y
    refine (removeT 0 _ (h.below hb2) hl h0 hn).mono ?_
    rintro e w2 ⟨he, hh⟩
    obtain ⟨v', es', g1, g2, g3, g4, g5⟩ := hh.out
    have hf : ¬ Foot p m v w.heap.size := fun hf => absurd (h.lt hf) (Nat.lt_irrefl _)
    have hsz : ((w'.setCell ⟨w.heap.size, 0, none⟩ x).setCell ⟨w.heap.size, 1, none⟩ y).heap.size = w'.heap.size := by simp
    have hblk := g3.block w.heap.size (by rw [hsz]; exact hs) hf
    obtain ⟨c0, c1⟩ := put2 ⟨k0, k1⟩ x y
    refine ⟨he, ⟨v', es', g1, g2, (turned_of_below hb2).trans g3, g4, g5⟩, fun k hk => h.lt hk, (cell_of_heap hblk).trans c0, (cell_of_heap hblk).trans c1, fun o => ?_⟩
    have e1 : w2.frozen? ⟨w.heap.size, o, none⟩ = ((w'.setCell ⟨w.heap.size, 0, none⟩ x).setCell ⟨w.heap.size, 1, none⟩ y).frozen? ⟨w.heap.size, o, none⟩ := by simp only [World.frozen?, hblk]
    rw [e1, World.frozen?_setCell, World.frozen?_setCell]
    exact kf o
  generalize hkk : (at_ es 0).key = kk at *
  generalize (at_ es 0).rank = rr at *
  clear h hl hkk
  go_enter Try.func22, Try.ntmps22
  go_wp2_with fail
  refine (unhide HC).mono ?_
  rintro e w' ⟨rfl, hb⟩
  have hs : w.heap.size < w'.heap.size := by have := hb.size; simp at this; omega
  obtain ⟨hb, k0, k1, kf⟩ := keptBox hb
  have HR2 := hide (unhide HR w' (.int .i64 rr.1) (.int .i64 rr.2) hb hs k0 k1 kf)
  clear hb HC HR hs
  go_wp2_with fail
  refine (unhide HR2).mono ?_
  rintro e w2 ⟨rfl, h2, hF, k20, k21, k2f⟩
  have HF := hide hF
  clear HR2 k0 k1 kf hF
  go_wp2_with fail
  go_region
  all_goals
    go_wp2_with fail
    refine bodyPost_ret (resP rfl _ _ w.heap.size _ _ rfl (put2 ⟨k20, k21⟩ _ _)) rfl ?_
    obtain ⟨v', es', g1, g2, g3, g4, g5⟩ := unhide h2
    have hT : Turned (Foot p m v) w ((w2.setCell ⟨w.heap.size, 0, none⟩ (.int .i64 rr.1)).setCell ⟨w.heap.size, 1, none⟩ (.int .i64 rr.2)).drew := by
      have := (below2 (Below.refl w.heap.size w2) (Nat.le_refl _) (.int .i64 rr.1) (.int .i64 rr.2)).drew
      exact ⟨this.os.trans g3.os, this.tape.trans g3.tape, this.output.trans g3.output, Nat.le_trans g3.size this.size, fun k hk hf => (this.block k hk).trans (g3.block k hk hf)⟩
    refine ⟨rfl, v', es', g1, g2.kept (fun k hk => ?_), hT, g4, g5⟩
    have hk' : Foot p m v k := by
      rcases hk with hk | hk | hk
      · exact .inl hk
      · exact .inr (.inl hk)
      · exact .inr (.inr (by rw [← g4]; exact hk))
    exact (below2 (Below.refl w.heap.size w2) (Nat.le_refl _) (.int .i64 rr.1) (.int .i64 rr.2)).block k (unhide HF k hk')
end Go.Proofs.Ytfhpabcjbjmcmaa
