/- The heap's Pop; a heap over cmp.Less. -/
import Derived.Test.YtdpdghhieokcfaaLiveI
import Derived.Test.YtdpdghhieokcfaaShelf
namespace Go.Proofs.Ytdpdghhieokcfaa
open Go.RowKit Go.Maps

set_option maxHeartbeats 400000 in
set_option maxRecDepth 100000 in
theorem popNoneI [Inhabited EntI] {p m : Nat} {lv v : Value} {n : Nat} (w : World) (h : HAtI w p m lv v [] n) : Calls Try.prog 37 #[.pointer (some ⟨p, 0, none⟩)] w fun e w' => e = .returned (.tuple #[.int .i64 0, .int .i64 0, .bool false]) ∧ w' = w := by
  have HC := hide (peekNoneI w h)
  clear h
  go_enter Try.func37, Try.ntmps37
  go_wp2_with fail
  refine (unhide HC).mono ?_
  rintro e w' ⟨rfl, rfl⟩
  go_wp2_with fail
  go_ret3
  exact ⟨rfl, rfl⟩

set_option maxHeartbeats 400000 in
set_option maxRecDepth 100000 in
theorem popSomeI [Inhabited EntI] {p m : Nat} {lv v : Value} {es : List EntI} {n : Nat} {gg : Int → Int} (w : World) (h : HAtI w p m lv v es n) (hl : Less lv gg) (h0 : 0 < es.length) (hn : es.length ≤ 1099511627776) :
    Calls Try.prog 37 #[.pointer (some ⟨p, 0, none⟩)] w fun e w' => e = .returned (.tuple #[.int .i64 ((at_ es 0).key), .int .i64 (at_ es 0).rank, .bool true]) ∧ Hid (∃ v' es', es'.Perm (without (at_ es 0).key es) ∧ HAtI w' p m lv v' es' n ∧ Turned (Foot p m v) w w' ∧ v'.ownBlock = v.ownBlock ∧
      (HeapOrd (le gg) es → HeapOrd (le gg) es')) := by
  have HC := hide (peekSomeI w h h0)
  have HR : Hid (∀ q, _) := fun q => removeI 0 (w.drewN q) (h.drewN q) hl h0 hn
  generalize hkk : (at_ es 0).key = kk at *
  generalize (at_ es 0).rank = rr at *
  clear h hl hkk
  go_enter Try.func37, Try.ntmps37
  go_wp2_with fail
  refine (unhide HC).mono ?_
  rintro e w' ⟨rfl, q, rfl⟩
  go_wp2_with fail
  refine (unhide HR q).mono ?_
  rintro e w2 ⟨rfl, h2⟩
  clear HC HR
  go_wp2_with fail
  go_ret3
  obtain ⟨v', es', g1, g2, g3, g4, g5⟩ := unhide h2
  exact ⟨rfl, v', es', g1, g2, ((Turned.refl _ w).drewN q).trans g3, g4, g5⟩

theorem OnI.popNone [Inhabited EntI] {w : World} {p : Nat} {F : Nat → Prop} {n : Nat} (h : OnI w p F [] n) :
    Calls Try.prog 37 #[.pointer (some ⟨p, 0, none⟩)] w fun e w' => e = .returned (.tuple #[.int .i64 0, .int .i64 0, .bool false]) ∧ w' = w := by
  obtain ⟨m, lv, v, es, h1, -, h3, -⟩ := h
  obtain rfl : es = [] := h3.perm.eq_nil
  exact popNoneI w h1

theorem OnI.pop [Inhabited EntI] {w : World} {p : Nat} {F : Nat → Prop} {ms : List EntI} {n : Nat} (h : OnI w p F ms n) (h0 : 0 < ms.length) (hn : ms.length ≤ 1099511627776) :
    Calls Try.prog 37 #[.pointer (some ⟨p, 0, none⟩)] w fun e w' => ∃ x ∈ ms, e = .returned (.tuple #[.int .i64 (x.key), .int .i64 x.rank, .bool true]) ∧ (∀ y ∈ ms, le (fun x => x) x y) ∧ ∃ F', OnI w' p F' (without x.key ms) n ∧ Turned F w w' ∧ ∀ j, F' j → F j ∨ w.heap.size ≤ j := by
  obtain ⟨m, lv, v, es, h1, h2, h3, h4⟩ := h
  have hl : 0 < es.length := by rw [h3.perm.length_eq]; exact h0
  obtain ⟨f1, f2⟩ := h3.first hl
  refine (popSomeI w h1 h2 hl (by rw [h3.perm.length_eq]; exact hn)).mono ?_
  rintro e w' ⟨he, hh⟩
  obtain ⟨v', es', g1, g2, g3, g4, g5⟩ := hh.out
  refine ⟨_, f1, he, f2, Foot p m v', ⟨m, lv, v', es', g2, h2, h3.without g1 (g5 h3.ord), fun j => Iff.rfl⟩, g3.mono (fun j _ hf => (h4 j).2 hf), fun j hf => .inl ((h4 j).2 ?_)⟩
  rcases hf with hf | hf | hf
  · exact .inl hf
  · exact .inr (.inl hf)
  · exact .inr (.inr (by rw [← g4]; exact hf))


theorem lessCmp : Less (.func (.func 35) #[] #[]) (fun x => x) := ⟨35, #[], rfl, Go.Proofs.enters_of Try.func35 (by kernel_rfl) rfl, fun x y w => Try.cmp_Less_int2 x y w⟩
end Go.Proofs.Ytdpdghhieokcfaa
