/- Peek, Get and Drop of a right heap over int keys. -/
import Derived.Test.YtagibmgbjhemkaaGreatLiveI
namespace Go.Proofs.YtagibmgbjhemkaaGreat
open Go.RowKit Go.Maps

set_option maxHeartbeats 400000 in
set_option maxRecDepth 100000 in
theorem dropInI [Inhabited EntI] {p m : Nat} {lv v : Value} {es : List EntI} {n : Nat} {gg : Int → Int} (i : Nat) (w : World) (h : HAtI w p m lv v es n) (hl : Less lv gg) (hi : i < es.length) (hn : es.length ≤ 1099511627776) :
    Calls Tryz.prog 121 #[.pointer (some ⟨p, 0, none⟩), .int .i64 (at_ es i).key] w fun e w' => e = .returned (.bool true) ∧ Hid (∃ v' es', es'.Perm (without (at_ es i).key es) ∧ HAtI w' p m lv v' es' n ∧ Turned (Foot p m v) w w' ∧ v'.ownBlock = v.ownBlock ∧ (HeapOrd (le gg) es → HeapOrd (le gg) es')) := by
  obtain ⟨D, hD, hM⟩ := h.map
  have hk := h.keys i hi
  have hhas : Maps.has D (klI (at_ es i).key) = true := (hM.at_ i hi).1
  have HLOOK : Hid (∀ c : Int, D.atKey (klI (at_ es i).key) (.lit (.int .i64 0)) = .lit (.int .i64 c) → c = (i : Int)) := fun c hc => lookI hM hi hc
  have c2 := h.cells.2.2.1
  have CR := hide (removeI i w h hl hi hn)
  have HD := hide hD
  generalize (at_ es i).key = kk at *
  clear h hM hD hl hi
  go_enter Tryz.func121, Tryz.ntmps121
  go_wp2_with (at_lookup; refine wpList_lookup_own_ok_int _ rfl _ _ 180 rfl 3 3 .i64 lawI Tryz.underlying180 Tryz.underlying3 (zeroI _) m es.length D rfl (unhide HD) _ _ rfl (keyI hk) ?_; intro cc hat hwc; rw [hhas, unhide HLOOK cc hat])
  refine (unhide CR).mono ?_
  rintro e w2 ⟨rfl, h2⟩
  clear CR
  go_wp2_with fail
  go_ret
  exact ⟨rfl, unhide h2⟩

theorem OnI.drop [Inhabited EntI] {w : World} {p : Nat} {F : Nat → Prop} {ms : List EntI} {n : Nat} (h : OnI w p F ms n) {x : EntI} (hx : x ∈ ms) (hn : ms.length ≤ 1099511627776) :
    Calls Tryz.prog 121 #[.pointer (some ⟨p, 0, none⟩), .int .i64 x.key] w fun e w' => e = .returned (.bool true) ∧ ∃ F', OnI w' p F' (without x.key ms) n ∧ Turned F w w' ∧ ∀ j, F' j → F j ∨ w.heap.size ≤ j := by
  obtain ⟨m, lv, v, es, h1, h2, h3, h4⟩ := h
  obtain ⟨i, hi, rfl⟩ := mem_at (h3.perm.mem_iff.2 hx)
  refine (dropInI i w h1 h2 hi (by rw [h3.perm.length_eq]; exact hn)).mono ?_
  rintro e w' ⟨he, hh⟩
  obtain ⟨v', es', g1, g2, g3, g4, g5⟩ := hh.out
  refine ⟨he, Foot p m v', ⟨m, lv, v', es', g2, h2, h3.without g1 (g5 h3.ord), fun j => Iff.rfl⟩, g3.mono (fun j _ hf => (h4 j).2 hf), fun j hf => .inl ((h4 j).2 ?_)⟩
  rcases hf with hf | hf | hf
  · exact .inl hf
  · exact .inr (.inl hf)
  · exact .inr (.inr (by rw [← g4]; exact hf))

theorem OnI.peekNone [Inhabited EntI] {w : World} {p : Nat} {F : Nat → Prop} {n : Nat} (h : OnI w p F [] n) :
    Calls Tryz.prog 114 #[.pointer (some ⟨p, 0, none⟩)] w fun e w' => e = .returned (.tuple #[.int .i64 0, .int .i64 0, .bool false]) ∧ w' = w := by
  obtain ⟨m, lv, v, es, h1, -, h3, -⟩ := h
  obtain rfl : es = [] := h3.perm.eq_nil
  exact peekNoneI w h1

theorem OnI.peek [Inhabited EntI] {w : World} {p : Nat} {F : Nat → Prop} {ms : List EntI} {n : Nat} (h : OnI w p F ms n) (h0 : 0 < ms.length) :
    Calls Tryz.prog 114 #[.pointer (some ⟨p, 0, none⟩)] w fun e w' => ∃ x ∈ ms, e = .returned (.tuple #[.int .i64 x.key, .int .i64 x.rank, .bool true]) ∧ (∀ y ∈ ms, le (fun x => x) x y) ∧ ∃ q, w' = w.drewN q := by
  obtain ⟨m, lv, v, es, h1, -, h3, -⟩ := h
  have hl : 0 < es.length := by rw [h3.perm.length_eq]; exact h0
  obtain ⟨f1, f2⟩ := h3.first hl
  exact (peekSomeI w h1 hl).mono fun e w' ⟨he, hq⟩ => ⟨_, f1, he, f2, hq⟩

end Go.Proofs.YtagibmgbjhemkaaGreat
