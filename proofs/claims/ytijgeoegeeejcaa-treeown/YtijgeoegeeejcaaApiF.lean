/- New, Len, Peek, Pop, Lower. -/
import Derived.Test.YtijgeoegeeejcaaPushF
import Derived.Test.YtijgeoegeeejcaaRemoveF
namespace Go.Proofs.Ytijgeoegeeejcaa
open Go.RowKit Go.Maps
attribute [local go_sem] run_storeF
theorem eql_funcF (f : Fn) (cb : Array Value) (w : World) : (binOp .eql 91 (.func f #[] cb) .nilFunc).run Try.prog w = .ok (.bool false) w := by
  simp only [binOp]
  simp [Op.equal, Op.maxDepth, equalIn_func w 9999 91 _ _ _ f cb Try.underlying91]

set_option maxHeartbeats 400000 in
set_option maxRecDepth 100000 in
theorem newF [Inhabited EntF] (g : Nat) (cb : Array Value) (w : World) :
    Calls Try.prog 51 #[.func (.func g) #[] cb] w fun e w' => e = .returned (.pointer (some ⟨w.heap.size + 1, 0, none⟩)) ∧ Hid (HAtF w' (w.heap.size + 1) w.heap.size (.func (.func g) #[] cb) (.slice none 0 0) [] 0 ∧ Below w.heap.size w w') := by
  have hmm := @run_makeMap Try.prog
  have hnil : ∀ w : World, (binOp .eql 91 (.func (.func g) #[] cb) .nilFunc).run Try.prog w = .ok (.bool false) w := eql_funcF (.func g) cb
  have HA : Hid (HAtF ((w.alloc (.map #[] 0)).alloc (.cells #[.func (.func g) #[] cb, .slice none 0 0, .map (some w.heap.size), .int .i64 0] 116)) (w.heap.size + 1) w.heap.size (.func (.func g) #[] cb) (.slice none 0 0) [] 0 ∧ Below w.heap.size w ((w.alloc (.map #[] 0)).alloc (.cells #[.func (.func g) #[] cb, .slice none 0 0, .map (some w.heap.size), .int .i64 0] 116))) := by
    refine ⟨⟨?_, World.ownsRow_nil _ _ _ _, ⟨.map [], (World.ownsMap_made w _ _ _).alloc _, ?_⟩, fun i hi => by simp at hi, by simp [Value.ownBlock], by simp [Value.ownBlock], by omega⟩, ((Below.refl _ _).alloc (Nat.le_refl _) _).alloc (by simp) _⟩
    · have := heap_alloc_new (w.alloc (.map #[] 0)) (.cells #[.func (.func g) #[] cb, .slice none 0 0, .map (some w.heap.size), .int .i64 0] 116)
      have e : (w.alloc (.map #[] 0)).heap.size = w.heap.size + 1 := by simp
      rw [e] at this
      exact this
    · exact ⟨tidy_empty, List.Pairwise.nil, rfl, fun i hi => by simp at hi, fun k hk => by simp [Maps.has] at hk⟩
  go_enter Try.func51, Try.ntmps51
  go_wp2
  go_ret
  exact ⟨by simp, unhide HA⟩

set_option maxHeartbeats 400000 in
set_option maxRecDepth 100000 in
theorem peekNoneF [Inhabited EntF] {p m : Nat} {lv v : Value} {n : Nat} (w : World) (h : HAtF w p m lv v [] n) : Calls Try.prog 74 #[.pointer (some ⟨p, 0, none⟩)] w fun e w' => e = .returned (.tuple #[.int .i64 0, .float .f32 0, .bool false]) ∧ w' = w := by
  have c1 := h.cells.2.1
  obtain ⟨ao, c0, rfl⟩ : ∃ ao c0, v = .slice ao 0 c0 := by
    rcases h.row.2 with ⟨rfl, h3⟩ | ⟨g, cap, cur, rfl, -⟩
    · exact ⟨none, 0, rfl⟩
    · exact ⟨_, _, rfl⟩
  clear h
  go_enter Try.func74, Try.ntmps74
  go_wp2
  go_ret3
  exact ⟨rfl, rfl⟩

set_option maxHeartbeats 400000 in
set_option maxRecDepth 100000 in
theorem peekSomeF [Inhabited EntF] {p m : Nat} {lv v : Value} {es : List EntF} {n : Nat} (w : World) (h : HAtF w p m lv v es n) (h0 : 0 < es.length) :
    Calls Try.prog 74 #[.pointer (some ⟨p, 0, none⟩)] w fun e w' => e = .returned (.tuple #[.int .i64 ((at_ es 0).key), .float .f32 (cfl (at_ es 0).rank), .bool true]) ∧ ∃ q, w' = w.drewN q := by
  have c1 := h.cells.2.1
  obtain ⟨b, c, rfl, -, -, -, -, -, hc⟩ := h.some_ h0
  have d1 := (hc 0 h0).1
  have d2 := (hc 0 h0).2.1
  rw [Nat.zero_mul] at d1 d2
  have hz : (0 : Int) < (es.length : Int) := by omega
  have hz2 : ((es.length : Int) == 0) = false := by simp; intro e; rw [e] at h0; simp at h0
  generalize (at_ es 0).key = kk at *
  generalize (at_ es 0).rank = rr at *
  generalize es.length = L at *
  clear h hc
  go_enter Try.func74, Try.ntmps74
  go_wp2_with fail
  go_quiet (fail)
  go_wp2_with fail
  go_ret3
  exact ⟨rfl, _, rfl⟩

set_option maxHeartbeats 400000 in
set_option maxRecDepth 100000 in
theorem popNoneF [Inhabited EntF] {p m : Nat} {lv v : Value} {n : Nat} (w : World) (h : HAtF w p m lv v [] n) : Calls Try.prog 54 #[.pointer (some ⟨p, 0, none⟩)] w fun e w' => e = .returned (.tuple #[.int .i64 0, .float .f32 0, .bool false]) ∧ w' = w := by
  have HC := hide (peekNoneF w h)
  clear h
  go_enter Try.func54, Try.ntmps54
  go_wp2_with fail
  refine (unhide HC).mono ?_
  rintro e w' ⟨rfl, rfl⟩
  go_wp2_with fail
  go_ret3
  exact ⟨rfl, rfl⟩

set_option maxHeartbeats 400000 in
set_option maxRecDepth 100000 in
theorem popSomeF [Inhabited EntF] {p m : Nat} {lv v : Value} {es : List EntF} {n : Nat} {gg : Nat → Int} (w : World) (h : HAtF w p m lv v es n) (hl : LessF lv gg) (h0 : 0 < es.length) (hn : es.length ≤ 1099511627776) :
    Calls Try.prog 54 #[.pointer (some ⟨p, 0, none⟩)] w fun e w' => e = .returned (.tuple #[.int .i64 ((at_ es 0).key), .float .f32 (cfl (at_ es 0).rank), .bool true]) ∧ Hid (∃ v' es', es'.Perm (without (at_ es 0).key es) ∧ HAtF w' p m lv v' es' n ∧ Turned (Foot p m v) w w' ∧ v'.ownBlock = v.ownBlock ∧
      (HeapOrd (le gg) es → HeapOrd (le gg) es')) := by
  have HC := hide (peekSomeF w h h0)
  have HR : Hid (∀ q, _) := fun q => removeF 0 (w.drewN q) (h.drewN q) hl h0 hn
  generalize hkk : (at_ es 0).key = kk at *
  generalize (at_ es 0).rank = rr at *
  clear h hl hkk
  go_enter Try.func54, Try.ntmps54
  go_wp2_with fail
  refine (unhide HC).mono ?_
  rintro e w' ⟨rfl, q, rfl⟩
  go_wp2_with fail
  refine (unhide HR q).mono ?_
  rintro e w2 ⟨rfl, h2⟩
  clear HC HR
  go_wp2_with fail
  go_ret3
  obtain ⟨v', es', g1, g2, g3, g4, g5⟩ := unhide h2
  exact ⟨rfl, v', es', g1, g2, ((Turned.refl _ w).drewN q).trans g3, g4, g5⟩

/-- What stands at a key. -/
theorem lookF [Inhabited EntF] {D : DataW Unit} {es : List EntF} (hM : MapIs klF D es) {i : Nat} (hi : i < es.length) {c : Int} (hat : D.atKey (klF (at_ es i).key) (.lit (.int .i64 0)) = .lit (.int .i64 c)) : c = (i : Int) := by
  have := (hM.at_ i hi).2
  rw [hat] at this
  simpa using this

set_option maxHeartbeats 400000 in
set_option maxRecDepth 100000 in
theorem lowerOutF [Inhabited EntF] {p m : Nat} {lv v : Value} {es : List EntF} {n : Nat} (k : Int) (r : Nat) (w : World) (h : HAtF w p m lv v es n) (hk : KeyOkF k) (hnin : ∀ x ∈ es, x.key ≠ k) :
    Calls Try.prog 77 #[.pointer (some ⟨p, 0, none⟩), .int .i64 (k), .float .f32 (cfl r)] w fun e w' => e = .returned (.bool false) ∧ ∃ q, w' = w.drewN q := by
  obtain ⟨D, hD, hM⟩ := h.map
  have hhas : Maps.has D (klF k) = false := by
    cases hh : Maps.has D (klF k) with
    | false => rfl
    | true =>
      obtain ⟨i, hi, he⟩ := hM.only k hh
      exact absurd he (hnin _ (at_mem es i hi))
  have c2 := h.cells.2.2.1
  have HD := hide hD
  clear h hM hnin hD
  go_enter Try.func77, Try.ntmps77
  go_wp2_with (at_lookup; refine wpList_lookup_own_ok_int _ rfl _ _ 113 rfl 3 3 .i64 lawF Try.underlying113 Try.underlying3 (zeroF _) m es.length D rfl (unhide HD) _ _ rfl (keyF hk) ?_; intro c hat hwc; rw [hhas])
  go_quiet (fail)
  go_wp2_with fail
  go_ret
  exact ⟨rfl, _, rfl⟩

/-- An entry's rank written. -/
theorem rankAtF [Inhabited EntF] {w : World} {p m n b c i : Nat} {lv : Value} {es : List EntF} {r : Nat} (h : HAtF w p m lv (.slice (some ⟨b, 0, none⟩) es.length c) es n) (hi : i < es.length) :
    HAtF (w.setCell ⟨b, i * 3 + 1, none⟩ (.float .f32 (cfl r))) p m lv (.slice (some ⟨b, 0, none⟩) es.length c) (es.set i { at_ es i with rank := r }) n ∧ Turned (Foot p m (.slice (some ⟨b, 0, none⟩) es.length c)) w (w.setCell ⟨b, i * 3 + 1, none⟩ (.float .f32 (cfl r))) := by
  have hbp : p ≠ b := fun e => h.ne1 (by simp [Value.ownBlock, e])
  have hbm : m ≠ b := fun e => h.ne2 (by simp [Value.ownBlock, e])
  obtain ⟨D, hD, hM⟩ := h.map
  have hat : ∀ j, at_ (es.set i { at_ es i with rank := r }) j = if j = i then { at_ es i with rank := r } else at_ es j := fun j => at_set es i j _ hi
  have hlen : (es.set i { at_ es i with rank := r }).length = es.length := by simp
  refine ⟨⟨(heap_setCell_other _ _ _ _ hbp).trans h.box, ?_, ⟨D, ?_, mapIs_keys hM hlen (fun j _ => ?_)⟩, fun j hj => ?_, h.ne1, h.ne2, h.ne3⟩, turned_setCell w _ _ (.inr (.inr rfl))⟩
  · rw [hlen]
    have h1 := (h.row.stored (i * 3 + 1) (.float .f32 (cfl r))).1
    have henc : encF (es.set i { at_ es i with rank := r }) = (encF es).set (i * 3 + 1) (.float .f32 (cfl r)) := by
      obtain ⟨e1, e2, e3⟩ := enc3_at (fun e : EntF => .int .i64 (e.key)) (fun e => .float .f32 (cfl e.rank)) (fun e => .int .i64 e.turn) es i hi
      unfold encF
      rw [enc3_set]
      have s1 : (enc3 (fun e : EntF => .int .i64 (e.key)) (fun e => .float .f32 (cfl e.rank)) (fun e => .int .i64 e.turn) es).set (i * 3) (.int .i64 ((at_ es i).key)) = enc3 (fun e : EntF => .int .i64 (e.key)) (fun e => .float .f32 (cfl e.rank)) (fun e => .int .i64 e.turn) es := by
        obtain ⟨h1, h2⟩ := List.getElem?_eq_some_iff.1 e1
        rw [← h2]; exact List.set_getElem_self h1
      rw [s1]
      have e3' : ((enc3 (fun e : EntF => .int .i64 (e.key)) (fun e => .float .f32 (cfl e.rank)) (fun e => .int .i64 e.turn) es).set (i * 3 + 1) (.float .f32 (cfl r)))[i * 3 + 2]? = some (.int .i64 (at_ es i).turn) := by
        rw [List.getElem?_set_ne (by omega)]; exact e3
      obtain ⟨h1, h2⟩ := List.getElem?_eq_some_iff.1 e3'
      have h2' := h2.symm
      show List.set (List.set _ (i * 3 + 1) (Value.float .f32 (cfl r))) (i * 3 + 2) (Value.int .i64 (at_ es i).turn) = _
      rw [h2']; exact List.set_getElem_self h1
    rw [henc]; exact h1
  · rw [hlen]
    obtain ⟨es', clock, h1, h2⟩ := hD
    exact ⟨es', clock, (heap_setCell_other _ _ _ _ hbm).trans h1, h2⟩
  · rw [hat]; split
    · rename_i e; rw [e]
    · rfl
  · rw [hlen] at hj
    rw [hat]; split
    · exact h.keys i hi
    · exact h.keys j hj

/-- A rank that is lowered: only its parent may stand wrongly. -/
theorem riseAt_loweredF [Inhabited EntF] {es : List EntF} {i : Nat} {r : Nat} {gg : Nat → Int} (hi : i < es.length) (hlt : gg r < gg (at_ es i).rank) (ho : HeapOrd (le gg) es) (full : Prop) : RiseAt (le gg) full i i (es.set i { at_ es i with rank := r }) := by
  have hat : ∀ j, at_ (es.set i { at_ es i with rank := r }) j = if j = i then { at_ es i with rank := r } else at_ es j := fun j => at_set es i j _ hi
  have hlow : ∀ x : EntF, le gg (at_ es i) x → le gg { at_ es i with rank := r } x := fun x hx => by unfold le at *; simp only at *; omega
  refine ⟨Nat.le_refl _, by simpa using hi, fun j hj hjl hne _ => ?_, fun h0 c hc hcl hpc => ?_⟩
  · rw [List.length_set] at hjl
    unfold Ok
    rw [hat, hat, if_neg hne]
    split
    · rename_i e
      have := ho j hj hjl
      unfold Ok at this
      rw [e] at this
      exact hlow _ this
    · exact ho j hj hjl
  · rw [List.length_set] at hcl
    have hpi : par i < i := by unfold par; omega
    have hpc' : par c < c := by unfold par; omega
    rw [hat, hat, if_neg (by omega), if_neg (by omega)]
    have h1 := ho i h0 hi
    have h2 := ho c hc hcl
    unfold Ok at h1 h2
    rw [hpc] at h2
    exact le_trans gg _ _ _ h1 h2

set_option maxHeartbeats 1000000 in
set_option maxRecDepth 100000 in
theorem lowerInF [Inhabited EntF] {p m : Nat} {lv v : Value} {es : List EntF} {n : Nat} {gg : Nat → Int} (i : Nat) (r : Nat) (w : World) (h : HAtF w p m lv v es n) (hl : LessF lv gg) (hi : i < es.length) (hn : es.length ≤ 1099511627776) :
    Calls Try.prog 77 #[.pointer (some ⟨p, 0, none⟩), .int .i64 ((at_ es i).key), .float .f32 (cfl r)] w fun e w' => (gg r < gg (at_ es i).rank → e = .returned (.bool true) ∧ Hid (∃ es', es'.Perm (lowered (at_ es i).key r es) ∧ HAtF w' p m lv v es' n ∧ Turned (Foot p m v) w w' ∧ (HeapOrd (le gg) es → HeapOrd (le gg) es'))) ∧
      (¬ gg r < gg (at_ es i).rank → e = .returned (.bool false) ∧ ∃ q, w' = w.drewN q) := by
  obtain ⟨D, hD, hM⟩ := h.map
  have hk := h.keys i hi
  have hhas : Maps.has D (klF (at_ es i).key) = true := (hM.at_ i hi).1
  have HLOOK : Hid (∀ c : Int, D.atKey (klF (at_ es i).key) (.lit (.int .i64 0)) = .lit (.int .i64 c) → c = (i : Int)) := fun c hc => lookF hM hi hc
  obtain ⟨c0, c1, c2, -, -⟩ := h.cells
  obtain ⟨b, c, rfl, -, -, -, -, fr, hc⟩ := h.some_ (by omega)
  have d2 := (hc i hi).2.1
  have hiz : (i : Int) < (es.length : Int) := by omega
  have HL := hide hl
  have hsl : Hid (es.set i { at_ es i with rank := r } = lowered (at_ es i).key r es) := set_lowered hM.once hi r
  have HRA : Hid (∀ q, _) := fun q => rankAtF (r := r) (h.drewN q) hi
  have HRL : Hid (gg r < gg (at_ es i).rank → HeapOrd (le gg) es → ∀ full, RiseAt (le gg) full i i (es.set i { at_ es i with rank := r })) := fun h1 h2 => riseAt_loweredF hi h1 h2
  obtain ⟨g, cb, rfl, eg, hless⟩ := hl
  have HC := hide (hless r (at_ es i).rank)
  have HD := hide hD
  generalize hkk : (at_ es i).key = kk at *
  generalize hrr : (at_ es i).rank = rr at *
  clear h hM hD hless hc hkk hrr
  by_cases hlt : gg r < gg rr
  · have HT : Hid (gg r < gg rr) := hlt
    rw [show decide (gg r < gg rr) = true from decide_eq_true hlt] at HC
    generalize hX : es.set i { at_ es i with rank := r } = esX at *
    have hXl : Hid (esX.length = es.length) := by rw [← hX]; exact List.length_set ..
    generalize hLL : es.length = L at *
    have HLn := hide hLL
    clear hlt hX hLL
    go_enter Try.func77, Try.ntmps77
    go_wp2_with (at_lookup; refine wpList_lookup_own_ok_int _ rfl _ _ 113 rfl 3 3 .i64 lawF Try.underlying113 Try.underlying3 (zeroF _) m L D rfl (unhide HD) _ _ rfl (keyF hk) ?_; intro cc hat hwc; rw [hhas, unhide HLOOK cc hat])
    go_quiet ((exact (unhide HC _).mono (fun _ _ h => ⟨h.1, _, h.2⟩)))
    have CR := hide (riseF i _ (unhide HRA nq).1 (unhide HL) (by rw [unhide hXl]; exact hi) (by rw [unhide hXl]; exact hn))
    go_wp2_with fail
    refine (unhide CR).mono ?_
    rintro e w2 ⟨rfl, h2⟩
    clear CR
    go_wp2_with fail
    go_ret
    refine ⟨fun _ => ⟨rfl, ?_⟩, fun h => by have := unhide HT; omega⟩
    obtain ⟨es', g1, g2, g3, g4⟩ := unhide h2
    exact ⟨es', by rw [← unhide hsl]; exact g1, g2, (((Turned.refl _ w).drewN nq).trans (unhide HRA nq).2).trans g3, fun ho => (g4 True (unhide HRL (unhide HT) ho True)).1 trivial⟩
  · have HT : Hid (gg rr ≤ gg r) := by show _ ≤ _; omega
    rw [show decide (gg r < gg rr) = false from decide_eq_false hlt] at HC
    generalize hLL : es.length = L at *
    clear hlt hLL HRA HRL
    go_enter Try.func77, Try.ntmps77
    go_wp2_with (at_lookup; refine wpList_lookup_own_ok_int _ rfl _ _ 113 rfl 3 3 .i64 lawF Try.underlying113 Try.underlying3 (zeroF _) m L D rfl (unhide HD) _ _ rfl (keyF hk) ?_; intro cc hat hwc; rw [hhas, unhide HLOOK cc hat])
    go_quiet ((exact (unhide HC _).mono (fun _ _ h => ⟨h.1, _, h.2⟩)))
    go_wp2_with fail
    go_ret
    exact ⟨fun h => by have := unhide HT; omega, fun _ => ⟨rfl, _, rfl⟩⟩
end Go.Proofs.Ytijgeoegeeejcaa
