/- A heap and the reference's list side by side. -/
import Derived.Test.YtfhpabcjbjmcmaaPairs
import Derived.Test.YtfhpabcjbjmcmaaMoreI
namespace Go.Proofs.Ytfhpabcjbjmcmaa
open Go.RowKit Go.Maps

structure Game [Inhabited EntI] (B : Nat) (w0 : World) (p : Nat) (ms : List EntI) (n : Nat) (v : Value) (its : List (Int × Int)) (w : World) : Prop where
  below : Below B w0 w
  room : B ≤ w.heap.size
  row : w.ownsRow 0 69 2 v its.length (enc .i64 its)
  on : ∃ F, OnI w p F ms n ∧ (∀ j, F j → B ≤ j) ∧ ∀ b, v.ownBlock = some b → ¬ F b

theorem items_kept {w w' : World} {v : Value} {B L : Nat} {xs : List Value} (h : w.ownsRow B 69 2 v L xs) (hk : ∀ k, v.ownBlock = some k → w'.heap[k]? = w.heap[k]?) : w'.ownsRow 0 69 2 v L xs := by
  refine ⟨h.1, ?_⟩
  rcases h.2 with hn | ⟨g, cap, cur, rfl, -, hgg, rest⟩
  · exact .inl hn
  · exact .inr ⟨g, cap, cur, rfl, Nat.zero_le _, (hk g rfl).trans hgg, rest⟩

/-- The reference's list gives way to a new one. -/
theorem Game.row_step [Inhabited EntI] {B : Nat} {w0 w w' : World} {p n : Nat} {ms : List EntI} {v v' : Value} {its its' : List (Int × Int)} (h : Game B w0 p ms n v its w) (hr : w'.ownsRow w.heap.size 69 2 v' its'.length (enc .i64 its')) (hb : Below w.heap.size w w') : Game B w0 p ms n v' its' w' := by
  obtain ⟨F, ho, hF, -⟩ := h.on
  refine ⟨h.below.trans (hb.mono h.room), Nat.le_trans h.room hb.size, items_kept hr (fun _ _ => rfl), F, ho.kept (fun k hk => hb.block k (ho.lt hk)), hF, fun b hv hf => ?_⟩
  have h1 := (hr.lt b hv).1
  have h2 := ho.lt hf
  omega

/-- The heap is turned. -/
theorem Game.heap_step [Inhabited EntI] {B : Nat} {w0 w : World} {p n : Nat} {ms : List EntI} {v : Value} {its : List (Int × Int)} (h : Game B w0 p ms n v its w) :
    ∃ F, OnI w p F ms n ∧ ∀ w' F' ms' n', OnI w' p F' ms' n' → Turned F w w' → (∀ j, F' j → F j ∨ w.heap.size ≤ j) → Game B w0 p ms' n' v its w' := by
  obtain ⟨F, ho, hF, hv⟩ := h.on
  refine ⟨F, ho, fun w' F' ms' n' g1 g2 g3 => ⟨h.below.trans (g2.below h.room hF), Nat.le_trans h.room g2.size, items_kept h.row (fun k hk => g2.block k (h.row.lt k hk).2 (hv k hk)), F', g1, fun j hj => ?_, fun b hb hf => ?_⟩⟩
  · rcases g3 j hj with e | e
    · exact hF j e
    · exact Nat.le_trans h.room e
  · rcases g3 b hf with e | e
    · exact hv b hb e
    · have := (h.row.lt b hb).2; omega

theorem Game.step [Inhabited EntI] {B : Nat} {w0 w w' : World} {p n : Nat} {ms : List EntI} {v : Value} {its : List (Int × Int)} (h : Game B w0 p ms n v its w) (hb : Below w.heap.size w w') : Game B w0 p ms n v its w' := by
  obtain ⟨F, ho, hF, hv⟩ := h.on
  exact ⟨h.below.trans (hb.mono h.room), Nat.le_trans h.room hb.size, items_kept h.row (fun k hk => hb.block k (h.row.lt k hk).2), F, ho.kept (fun k hk => hb.block k (ho.lt hk)), hF, hv⟩

theorem Game.facts [Inhabited EntI] {B : Nat} {w0 w : World} {p n : Nat} {ms : List EntI} {v : Value} {its : List (Int × Int)} (h : Game B w0 p ms n v its w) : KeysOnce ms ∧ ms.Pairwise (fun a b => a.turn < b.turn) := by
  obtain ⟨F, ho, -⟩ := h.on
  exact ⟨ho.once, ho.turns⟩

/-! ### the two sides' calls, over a state of both -/
section
variable [Inhabited EntI] {B : Nat} {w0 w : World} {p n : Nat} {ms : List EntI} {v : Value} {its : List (Int × Int)}

theorem gPushIn (k r : Int) (h : Game B w0 p ms n v its w) (hk : KeyOkI k) (hin : ∃ x ∈ ms, x.key = k) : Calls Try.prog 14 #[.pointer (some ⟨p, 0, none⟩), .int .i64 k, .int .i64 r] w fun e w' => e = .returned (.bool false) ∧ Game B w0 p ms n v its w' := by
  obtain ⟨F, ho, -⟩ := h.on
  exact (ho.pushIn k r hk hin).mono fun e w' ⟨he, hw⟩ => ⟨he, hw ▸ h⟩
theorem gPush (k r : Int) (h : Game B w0 p ms n v its w) (hk : KeyOkI k) (hnin : ∀ x ∈ ms, x.key ≠ k) (hn : ms.length < 1099511627776) (hnn : n < 1099511627776) : Calls Try.prog 14 #[.pointer (some ⟨p, 0, none⟩), .int .i64 k, .int .i64 r] w fun e w' => e = .returned (.bool true) ∧ Game B w0 p (ms ++ [⟨k, r, n⟩]) (n + 1) v its w' := by
  obtain ⟨F, ho, ht⟩ := h.heap_step
  exact (ho.push k r hk hnin hn hnn).mono fun e w' ⟨he, F', g1, g2, g3⟩ => ⟨he, ht _ _ _ _ g1 g2 g3⟩
theorem gLowerOut (k r : Int) (h : Game B w0 p ms n v its w) (hk : KeyOkI k) (hnin : ∀ x ∈ ms, x.key ≠ k) : Calls Try.prog 17 #[.pointer (some ⟨p, 0, none⟩), .int .i64 k, .int .i64 r] w fun e w' => e = .returned (.bool false) ∧ Game B w0 p ms n v its w' := by
  obtain ⟨F, ho, -⟩ := h.on
  exact (ho.lowerOut k r hk hnin).mono fun e w' ⟨he, q, hw⟩ => ⟨he, hw ▸ h.step (below_drewN (Below.refl _ _) q)⟩
theorem gLower (h : Game B w0 p ms n v its w) {x : EntI} (hx : x ∈ ms) (r : Int) (hn : ms.length ≤ 1099511627776) : Calls Try.prog 17 #[.pointer (some ⟨p, 0, none⟩), .int .i64 x.key, .int .i64 r] w fun e w' => e = .returned (.bool (decide (r < x.rank))) ∧ Game B w0 p (if r < x.rank then lowered x.key r ms else ms) n v its w' := by
  obtain ⟨F, ho, ht⟩ := h.heap_step
  exact (ho.lower hx r hn).mono fun e w' ⟨he, g1, g2⟩ => ⟨he, ht _ _ _ _ g1 g2 (fun _ => .inl)⟩
theorem gDrop (h : Game B w0 p ms n v its w) {x : EntI} (hx : x ∈ ms) (hn : ms.length ≤ 1099511627776) : Calls Try.prog 25 #[.pointer (some ⟨p, 0, none⟩), .int .i64 x.key] w fun e w' => e = .returned (.bool true) ∧ Game B w0 p (without x.key ms) n v its w' := by
  obtain ⟨F, ho, ht⟩ := h.heap_step
  exact (ho.drop hx hn).mono fun e w' ⟨he, F', g1, g2, g3⟩ => ⟨he, ht _ _ _ _ g1 g2 g3⟩
theorem gPop (h : Game B w0 p ms n v its w) (h0 : 0 < ms.length) (hn : ms.length ≤ 1099511627776) : Calls Try.prog 15 #[.pointer (some ⟨p, 0, none⟩)] w fun e w' => ∃ x ∈ ms, e = .returned (.tuple #[.int .i64 x.key, .int .i64 x.rank, .bool true]) ∧ (∀ y ∈ ms, le (fun x => x) x y) ∧ Game B w0 p (without x.key ms) n v its w' := by
  obtain ⟨F, ho, ht⟩ := h.heap_step
  exact (ho.pop h0 hn).mono fun e w' ⟨x, hx, he, hle, F', g1, g2, g3⟩ => ⟨x, hx, he, hle, ht _ _ _ _ g1 g2 g3⟩
end
end Go.Proofs.Ytfhpabcjbjmcmaa
