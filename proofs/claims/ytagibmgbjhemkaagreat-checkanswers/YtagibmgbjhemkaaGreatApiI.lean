/- New, Len, Peek, Pop, Lower. -/
import Derived.Test.YtagibmgbjhemkaaGreatPushI
import Derived.Test.YtagibmgbjhemkaaGreatRemoveI
namespace Go.Proofs.YtagibmgbjhemkaaGreat
open Go.RowKit Go.Maps

set_option maxHeartbeats 400000 in
set_option maxRecDepth 100000 in
theorem newI [Inhabited EntI] (g : Nat) (cb : Array Value) (w : World) :
    Calls Tryz.prog 96 #[.func (.func g) #[] cb] w fun e w' => e = .returned (.pointer (some ⟨w.heap.size + 1, 0, none⟩)) ∧ Hid (HAtI w' (w.heap.size + 1) w.heap.size (.func (.func g) #[] cb) (.slice none 0 0) [] 0 ∧ Below w.heap.size w w') := by
  have hmm := @run_makeMap Tryz.prog
  have hnil : ∀ w : World, (binOp .eql 163 (.func (.func g) #[] cb) .nilFunc).run Tryz.prog w = .ok (.bool false) w := eql_func (.func g) cb
  have HA : Hid (HAtI ((w.alloc (.map #[] 0)).alloc (.cells #[.func (.func g) #[] cb, .slice none 0 0, .map (some w.heap.size), .int .i64 0] 183)) (w.heap.size + 1) w.heap.size (.func (.func g) #[] cb) (.slice none 0 0) [] 0 ∧ Below w.heap.size w ((w.alloc (.map #[] 0)).alloc (.cells #[.func (.func g) #[] cb, .slice none 0 0, .map (some w.heap.size), .int .i64 0] 183))) := by
    refine ⟨⟨?_, World.ownsRow_nil _ _ _ _, ⟨.map [], (World.ownsMap_made w _ _ _).alloc _, ?_⟩, fun i hi => by simp at hi, by simp [Value.ownBlock], by simp [Value.ownBlock], by omega⟩, ((Below.refl _ _).alloc (Nat.le_refl _) _).alloc (by simp) _⟩
    · have := heap_alloc_new (w.alloc (.map #[] 0)) (.cells #[.func (.func g) #[] cb, .slice none 0 0, .map (some w.heap.size), .int .i64 0] 183)
      have e : (w.alloc (.map #[] 0)).heap.size = w.heap.size + 1 := by simp
      rw [e] at this
      exact this
    · exact ⟨tidy_empty, List.Pairwise.nil, rfl, fun i hi => by simp at hi, fun k hk => by simp [Maps.has] at hk⟩
  go_enter Tryz.func96, Tryz.ntmps96
  go_wp2
  go_ret
  exact ⟨by simp, unhide HA⟩

set_option maxHeartbeats 400000 in
set_option maxRecDepth 100000 in
theorem peekNoneI [Inhabited EntI] {p m : Nat} {lv v : Value} {n : Nat} (w : World) (h : HAtI w p m lv v [] n) : Calls Tryz.prog 114 #[.pointer (some ⟨p, 0, none⟩)] w fun e w' => e = .returned (.tuple #[.int .i64 0, .int .i64 0, .bool false]) ∧ w' = w := by
  have c1 := h.cells.2.1
  obtain ⟨ao, c0, rfl⟩ : ∃ ao c0, v = .slice ao 0 c0 := by
    rcases h.row.2 with ⟨rfl, h3⟩ | ⟨g, cap, cur, rfl, -⟩
    · exact ⟨none, 0, rfl⟩
    · exact ⟨_, _, rfl⟩
  clear h
  go_enter Tryz.func114, Tryz.ntmps114
  go_wp2
  go_ret3
  exact ⟨rfl, rfl⟩

set_option maxHeartbeats 400000 in
set_option maxRecDepth 100000 in
theorem peekSomeI [Inhabited EntI] {p m : Nat} {lv v : Value} {es : List EntI} {n : Nat} (w : World) (h : HAtI w p m lv v es n) (h0 : 0 < es.length) :
    Calls Tryz.prog 114 #[.pointer (some ⟨p, 0, none⟩)] w fun e w' => e = .returned (.tuple #[.int .i64 ((at_ es 0).key), .int .i64 (at_ es 0).rank, .bool true]) ∧ ∃ q, w' = w.drewN q := by
  have c1 := h.cells.2.1
  obtain ⟨b, c, rfl, -, -, -, -, -, hc⟩ := h.some_ h0
  have d1 := (hc 0 h0).1
  have d2 := (hc 0 h0).2.1
  rw [Nat.zero_mul] at d1 d2
  have hz : (0 : Int) < (es.length : Int) := by omega
  have hz2 : ((es.length : Int) == 0) = false := by simp; intro e; rw [e] at h0; simp at h0
  generalize (at_ es 0).key = kk at *
  generalize (at_ es 0).rank = rr at *
  generalize es.length = L at *
  clear h hc
  go_enter Tryz.func114, Tryz.ntmps114
  go_wp2_with fail
  go_quiet (fail)
  go_wp2_with fail
  go_ret3
  exact ⟨rfl, _, rfl⟩

/-- What stands at a key. -/
theorem lookI [Inhabited EntI] {D : DataW Unit} {es : List EntI} (hM : MapIs klI D es) {i : Nat} (hi : i < es.length) {c : Int} (hat : D.atKey (klI (at_ es i).key) (.lit (.int .i64 0)) = .lit (.int .i64 c)) : c = (i : Int) := by
  have := (hM.at_ i hi).2
  rw [hat] at this
  simpa using this

end Go.Proofs.YtagibmgbjhemkaaGreat
