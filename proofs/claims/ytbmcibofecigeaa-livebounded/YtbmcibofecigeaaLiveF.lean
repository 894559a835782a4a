/- A right heap, as its calls see it: its entries in the order in which they came. -/
import Derived.Test.YtbmcibofecigeaaPushF
import Derived.Test.YtbmcibofecigeaaRemoveF
namespace Go.Proofs.Ytbmcibofecigeaa

section
open Go.RowKit Go.Maps
attribute [local go_sem] run_storeF
theorem eql_funcF (f : Fn) (cb : Array Value) (w : World) : (binOp .eql 87 (.func f #[] cb) .nilFunc).run Try.prog w = .ok (.bool false) w := by
  simp only [binOp]
  simp [Op.equal, Op.maxDepth, equalIn_func w 9999 87 _ _ _ f cb Try.underlying87]

set_option maxHeartbeats 400000 in
set_option maxRecDepth 100000 in
theorem newF [Inhabited EntF] (g : Nat) (cb : Array Value) (w : World) :
    Calls Try.prog 48 #[.func (.func g) #[] cb] w fun e w' => e = .returned (.pointer (some ⟨w.heap.size + 1, 0, none⟩)) ∧ Hid (HAtF w' (w.heap.size + 1) w.heap.size (.func (.func g) #[] cb) (.slice none 0 0) [] 0 ∧ Below w.heap.size w w') := by
  have hmm := @run_makeMap Try.prog
  have hnil : ∀ w : World, (binOp .eql 87 (.func (.func g) #[] cb) .nilFunc).run Try.prog w = .ok (.bool false) w := eql_funcF (.func g) cb
  have HA : Hid (HAtF ((w.alloc (.map #[] 0)).alloc (.cells #[.func (.func g) #[] cb, .slice none 0 0, .map (some w.heap.size), .int .i64 0] 111)) (w.heap.size + 1) w.heap.size (.func (.func g) #[] cb) (.slice none 0 0) [] 0 ∧ Below w.heap.size w ((w.alloc (.map #[] 0)).alloc (.cells #[.func (.func g) #[] cb, .slice none 0 0, .map (some w.heap.size), .int .i64 0] 111))) := by
    refine ⟨⟨?_, World.ownsRow_nil _ _ _ _, ⟨.map [], (World.ownsMap_made w _ _ _).alloc _, ?_⟩, fun i hi => by simp at hi, by simp [Value.ownBlock], by simp [Value.ownBlock], by omega⟩, ((Below.refl _ _).alloc (Nat.le_refl _) _).alloc (by simp) _⟩
    · have := heap_alloc_new (w.alloc (.map #[] 0)) (.cells #[.func (.func g) #[] cb, .slice none 0 0, .map (some w.heap.size), .int .i64 0] 111)
      have e : (w.alloc (.map #[] 0)).heap.size = w.heap.size + 1 := by simp
      rw [e] at this
      exact this
    · exact ⟨tidy_empty, List.Pairwise.nil, rfl, fun i hi => by simp at hi, fun k hk => by simp [Maps.has] at hk⟩
  go_enter Try.func48, Try.ntmps48
  go_wp2
  go_ret
  exact ⟨by simp, unhide HA⟩

set_option maxHeartbeats 400000 in
set_option maxRecDepth 100000 in
theorem peekNoneF [Inhabited EntF] {p m : Nat} {lv v : Value} {n : Nat} (w : World) (h : HAtF w p m lv v [] n) : Calls Try.prog 76 #[.pointer (some ⟨p, 0, none⟩)] w fun e w' => e = .returned (.tuple #[.int .i64 0, .float .f32 0, .bool false]) ∧ w' = w := by
  have c1 := h.cells.2.1
  obtain ⟨ao, c0, rfl⟩ : ∃ ao c0, v = .slice ao 0 c0 := by
    rcases h.row.2 with ⟨rfl, h3⟩ | ⟨g, cap, cur, rfl, -⟩
    · exact ⟨none, 0, rfl⟩
    · exact ⟨_, _, rfl⟩
  clear h
  go_enter Try.func76, Try.ntmps76
  go_wp2
  go_ret3
  exact ⟨rfl, rfl⟩

set_option maxHeartbeats 400000 in
set_option maxRecDepth 100000 in
theorem peekSomeF [Inhabited EntF] {p m : Nat} {lv v : Value} {es : List EntF} {n : Nat} (w : World) (h : HAtF w p m lv v es n) (h0 : 0 < es.length) :
    Calls Try.prog 76 #[.pointer (some ⟨p, 0, none⟩)] w fun e w' => e = .returned (.tuple #[.int .i64 ((at_ es 0).key), .float .f32 (cfl (at_ es 0).rank), .bool true]) ∧ ∃ q, w' = w.drewN q := by
  have c1 := h.cells.2.1
  obtain ⟨b, c, rfl, -, -, -, -, -, hc⟩ := h.some_ h0
  have d1 := (hc 0 h0).1
  have d2 := (hc 0 h0).2.1
  rw [Nat.zero_mul] at d1 d2
  have hz : (0 : Int) < (es.length : Int) := by omega
  have hz2 : ((es.length : Int) == 0) = false := by simp; intro e; rw [e] at h0; simp at h0
  generalize (at_ es 0).key = kk at *
  generalize (at_ es 0).rank = rr at *
  generalize es.length = L at *
  clear h hc
  go_enter Try.func76, Try.ntmps76
  go_wp2_with fail
  go_quiet (fail)
  go_wp2_with fail
  go_ret3
  exact ⟨rfl, _, rfl⟩

set_option maxHeartbeats 400000 in
set_option maxRecDepth 100000 in
theorem popNoneF [Inhabited EntF] {p m : Nat} {lv v : Value} {n : Nat} (w : World) (h : HAtF w p m lv v [] n) : Calls Try.prog 67 #[.pointer (some ⟨p, 0, none⟩)] w fun e w' => e = .returned (.tuple #[.int .i64 0, .float .f32 0, .bool false]) ∧ w' = w := by
  have HC := hide (peekNoneF w h)
  clear h
  go_enter Try.func67, Try.ntmps67
  go_wp2_with fail
  refine (unhide HC).mono ?_
  rintro e w' ⟨rfl, rfl⟩
  go_wp2_with fail
  go_ret3
  exact ⟨rfl, rfl⟩

set_option maxHeartbeats 400000 in
set_option maxRecDepth 100000 in
theorem popSomeF [Inhabited EntF] {p m : Nat} {lv v : Value} {es : List EntF} {n : Nat} {gg : Nat → Int} (w : World) (h : HAtF w p m lv v es n) (hl : LessF lv gg) (h0 : 0 < es.length) (hn : es.length ≤ 1099511627776) :
    Calls Try.prog 67 #[.pointer (some ⟨p, 0, none⟩)] w fun e w' => e = .returned (.tuple #[.int .i64 ((at_ es 0).key), .float .f32 (cfl (at_ es 0).rank), .bool true]) ∧ Hid (∃ v' es', es'.Perm (without (at_ es 0).key es) ∧ HAtF w' p m lv v' es' n ∧ Turned (Foot p m v) w w' ∧ v'.ownBlock = v.ownBlock ∧
      (HeapOrd (le gg) es → HeapOrd (le gg) es')) := by
  have HC := hide (peekSomeF w h h0)
  have HR : Hid (∀ q, _) := fun q => removeF 0 (w.drewN q) (h.drewN q) hl h0 hn
  generalize hkk : (at_ es 0).key = kk at *
  generalize (at_ es 0).rank = rr at *
  clear h hl hkk
  go_enter Try.func67, Try.ntmps67
  go_wp2_with fail
  refine (unhide HC).mono ?_
  rintro e w' ⟨rfl, q, rfl⟩
  go_wp2_with fail
  refine (unhide HR q).mono ?_
  rintro e w2 ⟨rfl, h2⟩
  clear HC HR
  go_wp2_with fail
  go_ret3
  obtain ⟨v', es', g1, g2, g3, g4, g5⟩ := unhide h2
  exact ⟨rfl, v', es', g1, g2, ((Turned.refl _ w).drewN q).trans g3, g4, g5⟩

/-- What stands at a key. -/
theorem lookF [Inhabited EntF] {D : DataW Unit} {es : List EntF} (hM : MapIs klF D es) {i : Nat} (hi : i < es.length) {c : Int} (hat : D.atKey (klF (at_ es i).key) (.lit (.int .i64 0)) = .lit (.int .i64 c)) : c = (i : Int) := by
  have := (hM.at_ i hi).2
  rw [hat] at this
  simpa using this

set_option maxHeartbeats 400000 in
set_option maxRecDepth 100000 in
theorem lowerOutF [Inhabited EntF] {p m : Nat} {lv v : Value} {es : List EntF} {n : Nat} (k : Int) (r : Nat) (w : World) (h : HAtF w p m lv v es n) (hk : KeyOkF k) (hnin : ∀ x ∈ es, x.key ≠ k) :
    Calls Try.prog 66 #[.pointer (some ⟨p, 0, none⟩), .int .i64 (k), .float .f32 (cfl r)] w fun e w' => e = .returned (.bool false) ∧ ∃ q, w' = w.drewN q := by
  obtain ⟨D, hD, hM⟩ := h.map
  have hhas : Maps.has D (klF k) = false := by
    cases hh : Maps.has D (klF k) with
    | false => rfl
    | true =>
      obtain ⟨i, hi, he⟩ := hM.only k hh
      exact absurd he (hnin _ (at_mem es i hi))
  have c2 := h.cells.2.2.1
  have HD := hide hD
  clear h hM hnin hD
  go_enter Try.func66, Try.ntmps66
  go_wp2_with (at_lookup; refine wpList_lookup_own_ok_int _ rfl _ _ 108 rfl 3 3 .i64 lawF Try.underlying108 Try.underlying3 (zeroF _) m es.length D rfl (unhide HD) _ _ rfl (keyF hk) ?_; intro c hat hwc; rw [hhas])
  go_quiet (fail)
  go_wp2_with fail
  go_ret
  exact ⟨rfl, _, rfl⟩

/-- An entry's rank written. -/
theorem rankAtF [Inhabited EntF] {w : World} {p m n b c i : Nat} {lv : Value} {es : List EntF} {r : Nat} (h : HAtF w p m lv (.slice (some ⟨b, 0, none⟩) es.length c) es n) (hi : i < es.length) :
    HAtF (w.setCell ⟨b, i * 3 + 1, none⟩ (.float .f32 (cfl r))) p m lv (.slice (some ⟨b, 0, none⟩) es.length c) (es.set i { at_ es i with rank := r }) n ∧ Turned (Foot p m (.slice (some ⟨b, 0, none⟩) es.length c)) w (w.setCell ⟨b, i * 3 + 1, none⟩ (.float .f32 (cfl r))) := by
  have hbp : p ≠ b := fun e => h.ne1 (by simp [Value.ownBlock, e])
  have hbm : m ≠ b := fun e => h.ne2 (by simp [Value.ownBlock, e])
  obtain ⟨D, hD, hM⟩ := h.map
  have hat : ∀ j, at_ (es.set i { at_ es i with rank := r }) j = if j = i then { at_ es i with rank := r } else at_ es j := fun j => at_set es i j _ hi
  have hlen : (es.set i { at_ es i with rank := r }).length = es.length := by simp
  refine ⟨⟨(heap_setCell_other _ _ _ _ hbp).trans h.box, ?_, ⟨D, ?_, mapIs_keys hM hlen (fun j _ => ?_)⟩, fun j hj => ?_, h.ne1, h.ne2, h.ne3⟩, turned_setCell w _ _ (.inr (.inr rfl))⟩
  · rw [hlen]
    have h1 := (h.row.stored (i * 3 + 1) (.float .f32 (cfl r))).1
    have henc : encF (es.set i { at_ es i with rank := r }) = (encF es).set (i * 3 + 1) (.float .f32 (cfl r)) := by
      obtain ⟨e1, e2, e3⟩ := enc3_at (fun e : EntF => .int .i64 (e.key)) (fun e => .float .f32 (cfl e.rank)) (fun e => .int .i64 e.turn) es i hi
      unfold encF
      rw [enc3_set]
      have s1 : (enc3 (fun e : EntF => .int .i64 (e.key)) (fun e => .float .f32 (cfl e.rank)) (fun e => .int .i64 e.turn) es).set (i * 3) (.int .i64 ((at_ es i).key)) = enc3 (fun e : EntF => .int .i64 (e.key)) (fun e => .float .f32 (cfl e.rank)) (fun e => .int .i64 e.turn) es := by
        obtain ⟨h1, h2⟩ := List.getElem?_eq_some_iff.1 e1
        rw [← h2]; exact List.set_getElem_self h1
      rw [s1]
      have e3' : ((enc3 (fun e : EntF => .int .i64 (e.key)) (fun e => .float .f32 (cfl e.rank)) (fun e => .int .i64 e.turn) es).set (i * 3 + 1) (.float .f32 (cfl r)))[i * 3 + 2]? = some (.int .i64 (at_ es i).turn) := by
        rw [List.getElem?_set_ne (by omega)]; exact e3
      obtain ⟨h1, h2⟩ := List.getElem?_eq_some_iff.1 e3'
      have h2' := h2.symm
      show List.set (List.set _ (i * 3 + 1) (Value.float .f32 (cfl r))) (i * 3 + 2) (Value.int .i64 (at_ es i).turn) = _
      rw [h2']; exact List.set_getElem_self h1
    rw [henc]; exact h1
  · rw [hlen]
    obtain ⟨es', clock, h1, h2⟩ := hD
    exact ⟨es', clock, (heap_setCell_other _ _ _ _ hbm).trans h1, h2⟩
  · rw [hat]; split
    · rename_i e; rw [e]
    · rfl
  · rw [hlen] at hj
    rw [hat]; split
    · exact h.keys i hi
    · exact h.keys j hj

/-- A rank that is lowered: only its parent may stand wrongly. -/
theorem riseAt_loweredF [Inhabited EntF] {es : List EntF} {i : Nat} {r : Nat} {gg : Nat → Int} (hi : i < es.length) (hlt : gg r < gg (at_ es i).rank) (ho : HeapOrd (le gg) es) (full : Prop) : RiseAt (le gg) full i i (es.set i { at_ es i with rank := r }) := by
  have hat : ∀ j, at_ (es.set i { at_ es i with rank := r }) j = if j = i then { at_ es i with rank := r } else at_ es j := fun j => at_set es i j _ hi
  have hlow : ∀ x : EntF, le gg (at_ es i) x → le gg { at_ es i with rank := r } x := fun x hx => by unfold le at *; simp only at *; omega
  refine ⟨Nat.le_refl _, by simpa using hi, fun j hj hjl hne _ => ?_, fun h0 c hc hcl hpc => ?_⟩
  · rw [List.length_set] at hjl
    unfold Ok
    rw [hat, hat, if_neg hne]
    split
    · rename_i e
      have := ho j hj hjl
      unfold Ok at this
      rw [e] at this
      exact hlow _ this
    · exact ho j hj hjl
  · rw [List.length_set] at hcl
    have hpi : par i < i := by unfold par; omega
    have hpc' : par c < c := by unfold par; omega
    rw [hat, hat, if_neg (by omega), if_neg (by omega)]
    have h1 := ho i h0 hi
    have h2 := ho c hc hcl
    unfold Ok at h1 h2
    rw [hpc] at h2
    exact le_trans gg _ _ _ h1 h2

set_option maxHeartbeats 1000000 in
set_option maxRecDepth 100000 in
theorem lowerInF [Inhabited EntF] {p m : Nat} {lv v : Value} {es : List EntF} {n : Nat} {gg : Nat → Int} (i : Nat) (r : Nat) (w : World) (h : HAtF w p m lv v es n) (hl : LessF lv gg) (hi : i < es.length) (hn : es.length ≤ 1099511627776) :
    Calls Try.prog 66 #[.pointer (some ⟨p, 0, none⟩), .int .i64 ((at_ es i).key), .float .f32 (cfl r)] w fun e w' => (gg r < gg (at_ es i).rank → e = .returned (.bool true) ∧ Hid (∃ es', es'.Perm (lowered (at_ es i).key r es) ∧ HAtF w' p m lv v es' n ∧ Turned (Foot p m v) w w' ∧ (HeapOrd (le gg) es → HeapOrd (le gg) es'))) ∧
      (¬ gg r < gg (at_ es i).rank → e = .returned (.bool false) ∧ ∃ q, w' = w.drewN q) := by
  obtain ⟨D, hD, hM⟩ := h.map
  have hk := h.keys i hi
  have hhas : Maps.has D (klF (at_ es i).key) = true := (hM.at_ i hi).1
  have HLOOK : Hid (∀ c : Int, D.atKey (klF (at_ es i).key) (.lit (.int .i64 0)) = .lit (.int .i64 c) → c = (i : Int)) := fun c hc => lookF hM hi hc
  obtain ⟨c0, c1, c2, -, -⟩ := h.cells
  obtain ⟨b, c, rfl, -, -, -, -, fr, hc⟩ := h.some_ (by omega)
  have d2 := (hc i hi).2.1
  have hiz : (i : Int) < (es.length : Int) := by omega
  have HL := hide hl
  have hsl : Hid (es.set i { at_ es i with rank := r } = lowered (at_ es i).key r es) := set_lowered hM.once hi r
  have HRA : Hid (∀ q, _) := fun q => rankAtF (r := r) (h.drewN q) hi
  have HRL : Hid (gg r < gg (at_ es i).rank → HeapOrd (le gg) es → ∀ full, RiseAt (le gg) full i i (es.set i { at_ es i with rank := r })) := fun h1 h2 => riseAt_loweredF hi h1 h2
  obtain ⟨g, cb, rfl, eg, hless⟩ := hl
  have HC := hide (hless r (at_ es i).rank)
  have HD := hide hD
  generalize hkk : (at_ es i).key = kk at *
  generalize hrr : (at_ es i).rank = rr at *
  clear h hM hD hless hc hkk hrr
  by_cases hlt : gg r < gg rr
  · have HT : Hid (gg r < gg rr) := hlt
    rw [show decide (gg r < gg rr) = true from decide_eq_true hlt] at HC
    generalize hX : es.set i { at_ es i with rank := r } = esX at *
    have hXl : Hid (esX.length = es.length) := by rw [← hX]; exact List.length_set ..
    generalize hLL : es.length = L at *
    have HLn := hide hLL
    clear hlt hX hLL
    go_enter Try.func66, Try.ntmps66
    go_wp2_with (at_lookup; refine wpList_lookup_own_ok_int _ rfl _ _ 108 rfl 3 3 .i64 lawF Try.underlying108 Try.underlying3 (zeroF _) m L D rfl (unhide HD) _ _ rfl (keyF hk) ?_; intro cc hat hwc; rw [hhas, unhide HLOOK cc hat])
    go_quiet ((exact (unhide HC _).mono (fun _ _ h => ⟨h.1, _, h.2⟩)))
    have CR := hide (riseF i _ (unhide HRA nq).1 (unhide HL) (by rw [unhide hXl]; exact hi) (by rw [unhide hXl]; exact hn))
    go_wp2_with fail
    refine (unhide CR).mono ?_
    rintro e w2 ⟨rfl, h2⟩
    clear CR
    go_wp2_with fail
    go_ret
    refine ⟨fun _ => ⟨rfl, ?_⟩, fun h => by have := unhide HT; omega⟩
    obtain ⟨es', g1, g2, g3, g4⟩ := unhide h2
    exact ⟨es', by rw [← unhide hsl]; exact g1, g2, (((Turned.refl _ w).drewN nq).trans (unhide HRA nq).2).trans g3, fun ho => (g4 True (unhide HRL (unhide HT) ho True)).1 trivial⟩
  · have HT : Hid (gg rr ≤ gg r) := by show _ ≤ _; omega
    rw [show decide (gg r < gg rr) = false from decide_eq_false hlt] at HC
    generalize hLL : es.length = L at *
    clear hlt hLL HRA HRL
    go_enter Try.func66, Try.ntmps66
    go_wp2_with (at_lookup; refine wpList_lookup_own_ok_int _ rfl _ _ 108 rfl 3 3 .i64 lawF Try.underlying108 Try.underlying3 (zeroF _) m L D rfl (unhide HD) _ _ rfl (keyF hk) ?_; intro cc hat hwc; rw [hhas, unhide HLOOK cc hat])
    go_quiet ((exact (unhide HC _).mono (fun _ _ h => ⟨h.1, _, h.2⟩)))
    go_wp2_with fail
    go_ret
    exact ⟨fun h => by have := unhide HT; omega, fun _ => ⟨rfl, _, rfl⟩⟩
end

section
open Go.RowKit Go.Maps
attribute [local go_sem] run_storeF

/-- At p stands a heap over '<' with these entries; its blocks are those of F. -/
def OnF [Inhabited EntF] (w : World) (p : Nat) (F : Nat → Prop) (ms : List EntF) (n : Nat) : Prop := ∃ m lv v es, HAtF w p m lv v es n ∧ LessF lv gf ∧ Is gf es ms n ∧ ∀ k, F k ↔ Foot p m v k

theorem OnF.lt [Inhabited EntF] {w : World} {p : Nat} {F : Nat → Prop} {ms : List EntF} {n : Nat} (h : OnF w p F ms n) {k : Nat} (hk : F k) : k < w.heap.size := by
  obtain ⟨m, lv, v, es, h1, -, -, h4⟩ := h
  exact h1.lt ((h4 k).1 hk)

theorem OnF.kept [Inhabited EntF] {w w' : World} {p : Nat} {F : Nat → Prop} {ms : List EntF} {n : Nat} (h : OnF w p F ms n) (hk : ∀ k, F k → w'.heap[k]? = w.heap[k]?) : OnF w' p F ms n := by
  obtain ⟨m, lv, v, es, h1, h2, h3, h4⟩ := h
  exact ⟨m, lv, v, es, h1.kept (fun k hf => hk k ((h4 k).2 hf)), h2, h3, h4⟩

theorem keys_okF [Inhabited EntF] {w : World} {p m n : Nat} {lv v : Value} {es : List EntF} (h : HAtF w p m lv v es n) : ∀ x ∈ es, KeyOkF x.key := fun x hx => by
  obtain ⟨i, hi, rfl⟩ := mem_at hx
  exact h.keys i hi

theorem OnF.once [Inhabited EntF] {w : World} {p : Nat} {F : Nat → Prop} {ms : List EntF} {n : Nat} (h : OnF w p F ms n) : KeysOnce ms := by
  obtain ⟨m, lv, v, es, h1, -, h3, -⟩ := h
  obtain ⟨D, -, hM⟩ := h1.map
  exact keysOnce_perm h3.perm hM.once

theorem OnF.turns [Inhabited EntF] {w : World} {p : Nat} {F : Nat → Prop} {ms : List EntF} {n : Nat} (h : OnF w p F ms n) : ms.Pairwise (fun a b => a.turn < b.turn) := by
  obtain ⟨m, lv, v, es, -, -, h3, -⟩ := h
  exact h3.turns

theorem OnF.pushIn [Inhabited EntF] {w : World} {p : Nat} {F : Nat → Prop} {ms : List EntF} {n : Nat} (h : OnF w p F ms n) (k : Int) (r : Nat) (hk : KeyOkF k) (hin : ∃ x ∈ ms, x.key = k) :
    Calls Try.prog 65 #[.pointer (some ⟨p, 0, none⟩), .int .i64 (k), .float .f32 (cfl r)] w fun e w' => e = .returned (.bool false) ∧ w' = w := by
  obtain ⟨m, lv, v, es, h1, -, h3, -⟩ := h
  obtain ⟨x, hx, hxk⟩ := hin
  exact pushInF k r w h1 hk ⟨x, h3.perm.mem_iff.2 hx, hxk⟩

theorem OnF.push [Inhabited EntF] {w : World} {p : Nat} {F : Nat → Prop} {ms : List EntF} {n : Nat} (h : OnF w p F ms n) (k : Int) (r : Nat) (hk : KeyOkF k) (hnin : ∀ x ∈ ms, x.key ≠ k) (hn : ms.length < 1099511627776) (hnn : n < 1099511627776) :
    Calls Try.prog 65 #[.pointer (some ⟨p, 0, none⟩), .int .i64 (k), .float .f32 (cfl r)] w fun e w' => e = .returned (.bool true) ∧ ∃ F', OnF w' p F' (ms ++ [⟨k, r, n⟩]) (n + 1) ∧ Turned F w w' ∧ ∀ j, F' j → F j ∨ w.heap.size ≤ j := by
  obtain ⟨m, lv, v, es, h1, h2, h3, h4⟩ := h
  refine (pushNewF k r w h1 h2 hk (fun x hx => hnin x (h3.perm.mem_iff.1 hx)) (by rw [h3.perm.length_eq]; exact hn) hnn).mono ?_
  rintro e w' ⟨he, hh⟩
  obtain ⟨v', es', g1, g2, g3, g4, g5⟩ := hh.out
  refine ⟨he, Foot p m v', ⟨m, lv, v', es', g2, h2, h3.push g1 (g5 h3.ord), fun j => Iff.rfl⟩, g3.mono (fun j _ hf => (h4 j).2 hf), fun j hf => ?_⟩
  rcases hf with hf | hf | hf
  · exact .inl ((h4 j).2 (.inl hf))
  · exact .inl ((h4 j).2 (.inr (.inl hf)))
  · exact (g4 j hf).imp (fun e => (h4 j).2 (.inr (.inr e))) id

theorem OnF.popNone [Inhabited EntF] {w : World} {p : Nat} {F : Nat → Prop} {n : Nat} (h : OnF w p F [] n) :
    Calls Try.prog 67 #[.pointer (some ⟨p, 0, none⟩)] w fun e w' => e = .returned (.tuple #[.int .i64 0, .float .f32 0, .bool false]) ∧ w' = w := by
  obtain ⟨m, lv, v, es, h1, -, h3, -⟩ := h
  obtain rfl : es = [] := h3.perm.eq_nil
  exact popNoneF w h1

theorem OnF.pop [Inhabited EntF] {w : World} {p : Nat} {F : Nat → Prop} {ms : List EntF} {n : Nat} (h : OnF w p F ms n) (h0 : 0 < ms.length) (hn : ms.length ≤ 1099511627776) :
    Calls Try.prog 67 #[.pointer (some ⟨p, 0, none⟩)] w fun e w' => ∃ x ∈ ms, e = .returned (.tuple #[.int .i64 (x.key), .float .f32 (cfl x.rank), .bool true]) ∧ (∀ y ∈ ms, le gf x y) ∧ ∃ F', OnF w' p F' (without x.key ms) n ∧ Turned F w w' ∧ ∀ j, F' j → F j ∨ w.heap.size ≤ j := by
  obtain ⟨m, lv, v, es, h1, h2, h3, h4⟩ := h
  have hl : 0 < es.length := by rw [h3.perm.length_eq]; exact h0
  obtain ⟨f1, f2⟩ := h3.first hl
  refine (popSomeF w h1 h2 hl (by rw [h3.perm.length_eq]; exact hn)).mono ?_
  rintro e w' ⟨he, hh⟩
  obtain ⟨v', es', g1, g2, g3, g4, g5⟩ := hh.out
  refine ⟨_, f1, he, f2, Foot p m v', ⟨m, lv, v', es', g2, h2, h3.without g1 (g5 h3.ord), fun j => Iff.rfl⟩, g3.mono (fun j _ hf => (h4 j).2 hf), fun j hf => .inl ((h4 j).2 ?_)⟩
  rcases hf with hf | hf | hf
  · exact .inl hf
  · exact .inr (.inl hf)
  · exact .inr (.inr (by rw [← g4]; exact hf))

theorem OnF.lowerOut [Inhabited EntF] {w : World} {p : Nat} {F : Nat → Prop} {ms : List EntF} {n : Nat} (h : OnF w p F ms n) (k : Int) (r : Nat) (hk : KeyOkF k) (hnin : ∀ x ∈ ms, x.key ≠ k) :
    Calls Try.prog 66 #[.pointer (some ⟨p, 0, none⟩), .int .i64 (k), .float .f32 (cfl r)] w fun e w' => e = .returned (.bool false) ∧ ∃ q, w' = w.drewN q := by
  obtain ⟨m, lv, v, es, h1, -, h3, -⟩ := h
  exact lowerOutF k r w h1 hk (fun x hx => hnin x (h3.perm.mem_iff.1 hx))

theorem OnF.lower [Inhabited EntF] {w : World} {p : Nat} {F : Nat → Prop} {ms : List EntF} {n : Nat} (h : OnF w p F ms n) {x : EntF} (hx : x ∈ ms) (r : Nat) (hn : ms.length ≤ 1099511627776) :
    Calls Try.prog 66 #[.pointer (some ⟨p, 0, none⟩), .int .i64 (x.key), .float .f32 (cfl r)] w fun e w' => e = .returned (.bool (decide (gf r < gf x.rank))) ∧ OnF w' p F (if gf r < gf x.rank then lowered x.key r ms else ms) n ∧ Turned F w w' := by
  obtain ⟨m, lv, v, es, h1, h2, h3, h4⟩ := h
  obtain ⟨i, hi, rfl⟩ := mem_at (h3.perm.mem_iff.2 hx)
  refine (lowerInF i r w h1 h2 hi (by rw [h3.perm.length_eq]; exact hn)).mono ?_
  rintro e w' ⟨ha, hb⟩
  by_cases hlt : gf r < gf (at_ es i).rank
  · obtain ⟨he, hh⟩ := ha hlt
    obtain ⟨es', g1, g2, g3, g4⟩ := hh.out
    rw [if_pos hlt, decide_eq_true hlt]
    exact ⟨he, ⟨m, lv, v, es', g2, h2, h3.lowered g1 (g4 h3.ord), h4⟩, g3.mono (fun j _ hf => (h4 j).2 hf)⟩
  · obtain ⟨he, q, rfl⟩ := hb hlt
    rw [if_neg hlt, decide_eq_false hlt]
    exact ⟨he, ⟨m, lv, v, es, h1.drewN q, h2, h3, h4⟩, (Turned.refl _ _).drewN q⟩

theorem newOnF [Inhabited EntF] (g : Nat) (w : World) (hl : LessF (.func (.func g) #[] #[]) gf) :
    Calls Try.prog 48 #[.func (.func g) #[] #[]] w fun e w' => e = .returned (.pointer (some ⟨w.heap.size + 1, 0, none⟩)) ∧ Below w.heap.size w w' ∧ ∃ F, OnF w' (w.heap.size + 1) F [] 0 ∧ ∀ j, F j → w.heap.size ≤ j := by
  refine (newF g #[] w).mono ?_
  rintro e w' ⟨he, hh⟩
  obtain ⟨g1, g2⟩ := hh.out
  refine ⟨he, g2, Foot (w.heap.size + 1) w.heap.size (.slice none 0 0), ⟨_, _, _, _, g1, hl, is_nil _, fun j => Iff.rfl⟩, fun j hf => ?_⟩
  rcases hf with hf | hf | hf
  · omega
  · omega
  · simp [Value.ownBlock] at hf

/-- The one heap of a law: its blocks lie from B on; below B all is as in w0. -/
structure LiveF [Inhabited EntF] (B : Nat) (w0 : World) (p : Nat) (ms : List EntF) (n : Nat) (w : World) : Prop where
  below : Below B w0 w
  room : B ≤ w.heap.size
  on : ∃ F, OnF w p F ms n ∧ ∀ j, F j → B ≤ j

theorem LiveF.turned [Inhabited EntF] {B : Nat} {w0 w w' : World} {p n n' : Nat} {ms ms' : List EntF} {F F' : Nat → Prop} (h : LiveF B w0 p ms n w) (hF : ∀ j, F j → B ≤ j) (ho : OnF w' p F' ms' n') (ht : Turned F w w') (hs : ∀ j, F' j → F j ∨ w.heap.size ≤ j) : LiveF B w0 p ms' n' w' :=
  ⟨h.below.trans (ht.below h.room hF), Nat.le_trans h.room ht.size, F', ho, fun j hj => (hs j hj).elim (hF j) (fun e => Nat.le_trans h.room e)⟩

theorem LiveF.step [Inhabited EntF] {B : Nat} {w0 w w' : World} {p n : Nat} {ms : List EntF} (h : LiveF B w0 p ms n w) (hb : Below w.heap.size w w') : LiveF B w0 p ms n w' := by
  obtain ⟨F, ho, hF⟩ := h.on
  exact ⟨h.below.trans (hb.mono h.room), Nat.le_trans h.room hb.size, F, ho.kept (fun k hk => hb.block k (ho.lt hk)), hF⟩

theorem newLF [Inhabited EntF] (g : Nat) (w : World) (hl : LessF (.func (.func g) #[] #[]) gf) :
    Calls Try.prog 48 #[.func (.func g) #[] #[]] w fun e w' => ∃ p, e = .returned (.pointer (some ⟨p, 0, none⟩)) ∧ LiveF w.heap.size w p [] 0 w' :=
  (newOnF g w hl).mono fun _ _ ⟨he, hb, F, ho, hF⟩ => ⟨_, he, hb, hb.size, F, ho, hF⟩

theorem pushInLF [Inhabited EntF] {B : Nat} {w0 w : World} {p n : Nat} {ms : List EntF} (k : Int) (r : Nat) (h : LiveF B w0 p ms n w) (hk : KeyOkF k) (hin : ∃ x ∈ ms, x.key = k) :
    Calls Try.prog 65 #[.pointer (some ⟨p, 0, none⟩), .int .i64 (k), .float .f32 (cfl r)] w fun e w' => e = .returned (.bool false) ∧ w' = w := by
  obtain ⟨F, ho, -⟩ := h.on
  exact ho.pushIn k r hk hin

theorem pushLF [Inhabited EntF] {B : Nat} {w0 w : World} {p n : Nat} {ms : List EntF} (k : Int) (r : Nat) (h : LiveF B w0 p ms n w) (hk : KeyOkF k) (hnin : ∀ x ∈ ms, x.key ≠ k) (hn : ms.length < 1099511627776) (hnn : n < 1099511627776) :
    Calls Try.prog 65 #[.pointer (some ⟨p, 0, none⟩), .int .i64 (k), .float .f32 (cfl r)] w fun e w' => e = .returned (.bool true) ∧ LiveF B w0 p (ms ++ [⟨k, r, n⟩]) (n + 1) w' := by
  obtain ⟨F, ho, hF⟩ := h.on
  exact (ho.push k r hk hnin hn hnn).mono fun _ _ ⟨he, F', g1, g2, g3⟩ => ⟨he, h.turned hF g1 g2 g3⟩

theorem popNoneLF [Inhabited EntF] {B : Nat} {w0 w : World} {p n : Nat} (h : LiveF B w0 p [] n w) :
    Calls Try.prog 67 #[.pointer (some ⟨p, 0, none⟩)] w fun e w' => e = .returned (.tuple #[.int .i64 0, .float .f32 0, .bool false]) ∧ w' = w := by
  obtain ⟨F, ho, -⟩ := h.on
  exact ho.popNone

theorem popLF [Inhabited EntF] {B : Nat} {w0 w : World} {p n : Nat} {ms : List EntF} (h : LiveF B w0 p ms n w) (h0 : 0 < ms.length) (hn : ms.length ≤ 1099511627776) :
    Calls Try.prog 67 #[.pointer (some ⟨p, 0, none⟩)] w fun e w' => ∃ x ∈ ms, e = .returned (.tuple #[.int .i64 (x.key), .float .f32 (cfl x.rank), .bool true]) ∧ (∀ y ∈ ms, le gf x y) ∧ LiveF B w0 p (without x.key ms) n w' := by
  obtain ⟨F, ho, hF⟩ := h.on
  exact (ho.pop h0 hn).mono fun _ _ ⟨x, hx, he, hle, F', g1, g2, g3⟩ => ⟨x, hx, he, hle, h.turned hF g1 g2 g3⟩

theorem lowerLF [Inhabited EntF] {B : Nat} {w0 w : World} {p n : Nat} {ms : List EntF} (h : LiveF B w0 p ms n w) {x : EntF} (hx : x ∈ ms) (r : Nat) (hn : ms.length ≤ 1099511627776) :
    Calls Try.prog 66 #[.pointer (some ⟨p, 0, none⟩), .int .i64 (x.key), .float .f32 (cfl r)] w fun e w' => e = .returned (.bool (decide (gf r < gf x.rank))) ∧ LiveF B w0 p (if gf r < gf x.rank then lowered x.key r ms else ms) n w' := by
  obtain ⟨F, ho, hF⟩ := h.on
  exact (ho.lower hx r hn).mono fun _ _ ⟨he, g1, g2⟩ => ⟨he, h.turned hF g1 g2 (fun _ => .inl)⟩
end

end Go.Proofs.Ytbmcibofecigeaa
