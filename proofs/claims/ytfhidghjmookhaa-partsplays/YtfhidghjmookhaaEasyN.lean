/- The calls that only read, and New: parts in memory. -/
import Derived.Test.YtfhidghjmookhaaAtN
namespace Go.Proofs.Ytfhidghjmookhaa
open Go.RowKit Go.Maps

set_option maxHeartbeats 400000 in
theorem newN (w : World) : Calls Try.prog 7 #[] w fun e w' => ∃ p m, e = .returned (.pointer (some ⟨p, 0, none⟩)) ∧ Hid (PAtN w' p m [] ∧ Below w.heap.size w w' ∧ w.heap.size ≤ p ∧ w.heap.size ≤ m) := by
  have hmm := @run_makeMap Try.prog
  have HA : Hid (PAtN ((w.alloc (.map #[] 0)).alloc (.cells #[.map (some w.heap.size)] 57)) (w.heap.size + 1) w.heap.size [] ∧ Below w.heap.size w ((w.alloc (.map #[] 0)).alloc (.cells #[.map (some w.heap.size)] 57))) := by
    refine ⟨⟨?_, fun x hx => by simp at hx, ⟨fun x hx => by simp at hx, fun x hx => by simp at hx, fun x hx => by simp at hx, .nil⟩, ?_⟩, ((Below.refl _ _).alloc (Nat.le_refl _) _).alloc (by simp) _⟩
    · have := heap_alloc_new (w.alloc (.map #[] 0)) (.cells #[.map (some w.heap.size)] 57)
      simpa using this
    · refine MapFn.congr (f := fun _ => none) ?_ (fun k _ => fOf_nil k)
      exact (mapFn_made (kt := 3) (kl := klN) (ok := okN) w).kept (((Below.refl _ (w.alloc (.map #[] 0))).alloc (Nat.le_refl _) _).block _ (by simp))
  go_enter Try.func7, Try.ntmps7
  go_wp2_with fail
  go_ret
  exact ⟨_, _, rfl, (unhide HA).1, (unhide HA).2, by omega, Nat.le_refl _⟩

set_option maxHeartbeats 400000 in
theorem lenN {p m : Nat} {S : List (Part Int)} (w : World) (h : PAtN w p m S) : Calls Try.prog 10 #[.pointer (some ⟨p, 0, none⟩)] w fun e w' => e = .returned (.int .i64 (tot S)) ∧ w' = w := by
  have c1 := h.cell
  have hl := fun ty => h.map.len_ (t := 55) (e := 65) Try.underlying55 ty
  clear h
  go_enter Try.func10, Try.ntmps10
  go_wp2_with fail
  go_ret
  exact ⟨rfl, rfl⟩

set_option maxHeartbeats 400000 in
theorem headNoN {p m : Nat} {S : List (Part Int)} (k : Int) (w : World) (h : PAtN w p m S) (hk : okN k) (hno : ∀ x ∈ S, k ∉ x.ks) : Calls Try.prog 28 #[.pointer (some ⟨p, 0, none⟩), (Value.int .i64) k] w fun e w' => e = .returned (.tuple #[(Value.int .i64 0), .bool false]) ∧ w' = w := by
  have c1 := h.cell
  have hl := h.look k hk
  rw [fOf_none.2 hno] at hl
  simp only [ptr] at hl
  clear h
  go_enter Try.func28, Try.ntmps28
  go_wp2_with fail
  go_ret2
  exact ⟨rfl, rfl⟩

set_option maxHeartbeats 400000 in
theorem headN {p m : Nat} {S : List (Part Int)} {x : Part Int} (k : Int) (w : World) (h : PAtN w p m S) (hx : x ∈ S) (hk : k ∈ x.ks) : Calls Try.prog 28 #[.pointer (some ⟨p, 0, none⟩), (Value.int .i64) k] w fun e w' => e = .returned (.tuple #[(Value.int .i64) (x.ks.headD (0 : Int)), .bool true]) ∧ w' = w := by
  have c1 := h.cell
  have hl := h.look k (h.fam.keys x hx k hk)
  rw [fOf_some h.fam hx hk] at hl
  simp only [ptr] at hl
  obtain ⟨g, c, e, -, -, -, -, hc⟩ := (h.rows x hx).some_ (h.fam.some_ x hx)
  have c2 := (h.rows x hx).cell.1
  have hpos : 0 < x.ks.length := List.length_pos_iff.2 (h.fam.some_ x hx)
  have c3 := hc 0 hpos
  rw [show x.ks.getD 0 (0 : Int) = x.ks.headD (0 : Int) by cases x.ks <;> rfl] at c3
  rw [e] at c2
  have hz : (0 : Int) < (x.ks.length : Int) := by omega
  generalize x.ks.headD (0 : Int) = hd at *
  generalize x.ks.length = L at *
  generalize x.q = q at *
  clear h hc
  go_enter Try.func28, Try.ntmps28
  go_wp2_with fail
  go_ret2
  exact ⟨rfl, rfl⟩

set_option maxHeartbeats 1000000 in
theorem sameN {p m : Nat} {S : List (Part Int)} (a b : Int) (w : World) (h : PAtN w p m S) (ha : okN a) (hb : okN b) : Calls Try.prog 29 #[.pointer (some ⟨p, 0, none⟩), (Value.int .i64) a, (Value.int .i64) b] w fun e w' => e = .returned (.bool ((fOf S a).isSome && fOf S a == fOf S b)) ∧ w' = w := by
  have c1 := h.cell
  have hl := h.look a ha
  have hl2 := h.look b hb
  have HEQ : Hid (∀ x y, fOf S a = some x → fOf S b = some y → (binOp .eql 65 (.pointer (some ⟨x, 0, none⟩)) (.pointer (some ⟨y, 0, none⟩))).run Try.prog w = .ok (.bool (decide (x = y))) w) := fun x y h1 h2 => by
    obtain ⟨x', hx, -, rfl⟩ := fOf_mem h1
    obtain ⟨y', hy, -, rfl⟩ := fOf_mem h2
    exact h.eql hx hy
  clear h
  cases hfa : fOf S a with
  | none =>
    rw [hfa] at hl
    simp only [ptr] at hl
    go_enter Try.func29, Try.ntmps29
    go_wp2_with fail
    go_ret
    exact ⟨rfl, rfl⟩
  | some x =>
    rw [hfa] at hl
    simp only [ptr] at hl
    cases hfb : fOf S b with
    | none =>
      rw [hfb] at hl2
      simp only [ptr] at hl2
      go_enter Try.func29, Try.ntmps29
      go_wp2_with fail
      go_ret
      exact ⟨rfl, rfl⟩
    | some y =>
      rw [hfb] at hl2
      simp only [ptr] at hl2
      have heq := unhide HEQ x y hfa hfb
      go_enter Try.func29, Try.ntmps29
      go_wp2_with fail
      go_ret
      exact ⟨by by_cases e : x = y <;> simp [e], rfl⟩
end Go.Proofs.Ytfhidghjmookhaa
