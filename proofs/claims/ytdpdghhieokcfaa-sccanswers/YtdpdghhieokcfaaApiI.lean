/- New, Len, Peek, Pop, Lower. -/
import Derived.Test.YtdpdghhieokcfaaPushI
import Derived.Test.YtdpdghhieokcfaaRemoveI
namespace Go.Proofs.Ytdpdghhieokcfaa
open Go.RowKit Go.Maps

set_option maxHeartbeats 400000 in
set_option maxRecDepth 100000 in
theorem newI [Inhabited EntI] (g : Nat) (cb : Array Value) (w : World) :
    Calls Try.prog 34 #[.func (.func g) #[] cb] w fun e w' => e = .returned (.pointer (some ⟨w.heap.size + 1, 0, none⟩)) ∧ Hid (HAtI w' (w.heap.size + 1) w.heap.size (.func (.func g) #[] cb) (.slice none 0 0) [] 0 ∧ Below w.heap.size w w') := by
  have hmm := @run_makeMap Try.prog
  have hnil : ∀ w : World, (binOp .eql 74 (.func (.func g) #[] cb) .nilFunc).run Try.prog w = .ok (.bool false) w := eql_func (.func g) cb
  have HA : Hid (HAtI ((w.alloc (.map #[] 0)).alloc (.cells #[.func (.func g) #[] cb, .slice none 0 0, .map (some w.heap.size), .int .i64 0] 90)) (w.heap.size + 1) w.heap.size (.func (.func g) #[] cb) (.slice none 0 0) [] 0 ∧ Below w.heap.size w ((w.alloc (.map #[] 0)).alloc (.cells #[.func (.func g) #[] cb, .slice none 0 0, .map (some w.heap.size), .int .i64 0] 90))) := by
    refine ⟨⟨?_, World.ownsRow_nil _ _ _ _, ⟨.map [], (World.ownsMap_made w _ _ _).alloc _, ?_⟩, fun i hi => by simp at hi, by simp [Value.ownBlock], by simp [Value.ownBlock], by omega⟩, ((Below.refl _ _).alloc (Nat.le_refl _) _).alloc (by simp) _⟩
    · have := heap_alloc_new (w.alloc (.map #[] 0)) (.cells #[.func (.func g) #[] cb, .slice none 0 0, .map (some w.heap.size), .int .i64 0] 90)
      have e : (w.alloc (.map #[] 0)).heap.size = w.heap.size + 1 := by simp
      rw [e] at this
      exact this
    · exact ⟨tidy_empty, List.Pairwise.nil, rfl, fun i hi => by simp at hi, fun k hk => by simp [Maps.has] at hk⟩
  go_enter Try.func34, Try.ntmps34
  go_wp2
  go_ret
  exact ⟨by simp, unhide HA⟩

set_option maxHeartbeats 400000 in
set_option maxRecDepth 100000 in
theorem peekNoneI [Inhabited EntI] {p m : Nat} {lv v : Value} {n : Nat} (w : World) (h : HAtI w p m lv v [] n) : Calls Try.prog 48 #[.pointer (some ⟨p, 0, none⟩)] w fun e w' => e = .returned (.tuple #[.int .i64 0, .int .i64 0, .bool false]) ∧ w' = w := by
  have c1 := h.cells.2.1
  obtain ⟨ao, c0, rfl⟩ : ∃ ao c0, v = .slice ao 0 c0 := by
    rcases h.row.2 with ⟨rfl, h3⟩ | ⟨g, cap, cur, rfl, -⟩
    · exact ⟨none, 0, rfl⟩
    · exact ⟨_, _, rfl⟩
  clear h
  go_enter Try.func48, Try.ntmps48
  go_wp2
  go_ret3
  exact ⟨rfl, rfl⟩

set_option maxHeartbeats 400000 in
set_option maxRecDepth 100000 in
theorem peekSomeI [Inhabited EntI] {p m : Nat} {lv v : Value} {es : List EntI} {n : Nat} (w : World) (h : HAtI w p m lv v es n) (h0 : 0 < es.length) :
    Calls Try.prog 48 #[.pointer (some ⟨p, 0, none⟩)] w fun e w' => e = .returned (.tuple #[.int .i64 ((at_ es 0).key), .int .i64 (at_ es 0).rank, .bool true]) ∧ ∃ q, w' = w.drewN q := by
  have c1 := h.cells.2.1
  obtain ⟨b, c, rfl, -, -, -, -, -, hc⟩ := h.some_ h0
  have d1 := (hc 0 h0).1
  have d2 := (hc 0 h0).2.1
  rw [Nat.zero_mul] at d1 d2
  have hz : (0 : Int) < (es.length : Int) := by omega
  have hz2 : ((es.length : Int) == 0) = false := by simp; intro e; rw [e] at h0; simp at h0
  generalize (at_ es 0).key = kk at *
  generalize (at_ es 0).rank = rr at *
  generalize es.length = L at *
  clear h hc
  go_enter Try.func48, Try.ntmps48
  go_wp2_with fail
  go_quiet (fail)
  go_wp2_with fail
  go_ret3
  exact ⟨rfl, _, rfl⟩

/-- What stands at a key. -/
theorem lookI [Inhabited EntI] {D : DataW Unit} {es : List EntI} (hM : MapIs klI D es) {i : Nat} (hi : i < es.length) {c : Int} (hat : D.atKey (klI (at_ es i).key) (.lit (.int .i64 0)) = .lit (.int .i64 c)) : c = (i : Int) := by
  have := (hM.at_ i hi).2
  rw [hat] at this
  simpa using this

/-- An entry's rank written. -/
theorem rankAtI [Inhabited EntI] {w : World} {p m n b c i : Nat} {lv : Value} {es : List EntI} {r : Int} (h : HAtI w p m lv (.slice (some ⟨b, 0, none⟩) es.length c) es n) (hi : i < es.length) :
    HAtI (w.setCell ⟨b, i * 3 + 1, none⟩ (.int .i64 r)) p m lv (.slice (some ⟨b, 0, none⟩) es.length c) (es.set i { at_ es i with rank := r }) n ∧ Turned (Foot p m (.slice (some ⟨b, 0, none⟩) es.length c)) w (w.setCell ⟨b, i * 3 + 1, none⟩ (.int .i64 r)) := by
  have hbp : p ≠ b := fun e => h.ne1 (by simp [Value.ownBlock, e])
  have hbm : m ≠ b := fun e => h.ne2 (by simp [Value.ownBlock, e])
  obtain ⟨D, hD, hM⟩ := h.map
  have hat : ∀ j, at_ (es.set i { at_ es i with rank := r }) j = if j = i then { at_ es i with rank := r } else at_ es j := fun j => at_set es i j _ hi
  have hlen : (es.set i { at_ es i with rank := r }).length = es.length := by simp
  refine ⟨⟨(heap_setCell_other _ _ _ _ hbp).trans h.box, ?_, ⟨D, ?_, mapIs_keys hM hlen (fun j _ => ?_)⟩, fun j hj => ?_, h.ne1, h.ne2, h.ne3⟩, turned_setCell w _ _ (.inr (.inr rfl))⟩
  · rw [hlen]
    have h1 := (h.row.stored (i * 3 + 1) (.int .i64 r)).1
    have henc : encI (es.set i { at_ es i with rank := r }) = (encI es).set (i * 3 + 1) (.int .i64 r) := by
      obtain ⟨e1, e2, e3⟩ := enc3_at (fun e : EntI => .int .i64 (e.key)) (fun e => .int .i64 e.rank) (fun e => .int .i64 e.turn) es i hi
      unfold encI
      rw [enc3_set]
      have s1 : (enc3 (fun e : EntI => .int .i64 (e.key)) (fun e => .int .i64 e.rank) (fun e => .int .i64 e.turn) es).set (i * 3) (.int .i64 ((at_ es i).key)) = enc3 (fun e : EntI => .int .i64 (e.key)) (fun e => .int .i64 e.rank) (fun e => .int .i64 e.turn) es := by
        obtain ⟨h1, h2⟩ := List.getElem?_eq_some_iff.1 e1
        rw [← h2]; exact List.set_getElem_self h1
      rw [s1]
      have e3' : ((enc3 (fun e : EntI => .int .i64 (e.key)) (fun e => .int .i64 e.rank) (fun e => .int .i64 e.turn) es).set (i * 3 + 1) (.int .i64 r))[i * 3 + 2]? = some (.int .i64 (at_ es i).turn) := by
        rw [List.getElem?_set_ne (by omega)]; exact e3
      obtain ⟨h1, h2⟩ := List.getElem?_eq_some_iff.1 e3'
      have h2' := h2.symm
      show List.set (List.set _ (i * 3 + 1) (Value.int .i64 r)) (i * 3 + 2) (Value.int .i64 (at_ es i).turn) = _
      rw [h2']; exact List.set_getElem_self h1
    rw [henc]; exact h1
  · rw [hlen]
    obtain ⟨es', clock, h1, h2⟩ := hD
    exact ⟨es', clock, (heap_setCell_other _ _ _ _ hbm).trans h1, h2⟩
  · rw [hat]; split
    · rename_i e; rw [e]
    · rfl
  · rw [hlen] at hj
    rw [hat]; split
    · exact h.keys i hi
    · exact h.keys j hj

/-- A rank that is lowered: only its parent may stand wrongly. -/
theorem riseAt_loweredI [Inhabited EntI] {es : List EntI} {i : Nat} {r : Int} {gg : Int → Int} (hi : i < es.length) (hlt : gg r < gg (at_ es i).rank) (ho : HeapOrd (le gg) es) (full : Prop) : RiseAt (le gg) full i i (es.set i { at_ es i with rank := r }) := by
  have hat : ∀ j, at_ (es.set i { at_ es i with rank := r }) j = if j = i then { at_ es i with rank := r } else at_ es j := fun j => at_set es i j _ hi
  have hlow : ∀ x : EntI, le gg (at_ es i) x → le gg { at_ es i with rank := r } x := fun x hx => by unfold le at *; simp only at *; omega
  refine ⟨Nat.le_refl _, by simpa using hi, fun j hj hjl hne _ => ?_, fun h0 c hc hcl hpc => ?_⟩
  · rw [List.length_set] at hjl
    unfold Ok
    rw [hat, hat, if_neg hne]
    split
    · rename_i e
      have := ho j hj hjl
      unfold Ok at this
      rw [e] at this
      exact hlow _ this
    · exact ho j hj hjl
  · rw [List.length_set] at hcl
    have hpi : par i < i := by unfold par; omega
    have hpc' : par c < c := by unfold par; omega
    rw [hat, hat, if_neg (by omega), if_neg (by omega)]
    have h1 := ho i h0 hi
    have h2 := ho c hc hcl
    unfold Ok at h1 h2
    rw [hpc] at h2
    exact le_trans gg _ _ _ h1 h2

end Go.Proofs.Ytdpdghhieokcfaa
