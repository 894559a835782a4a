/- The calls that only read, and New: parts in memory. -/
import Derived.Test.YtfhidghjmookhaaAtZ
namespace Go.Proofs.Ytfhidghjmookhaa
open Go.RowKit Go.Maps

set_option maxHeartbeats 400000 in
theorem newZ (w : World) : Calls Try.prog 39 #[] w fun e w' => ∃ p m, e = .returned (.pointer (some ⟨p, 0, none⟩)) ∧ Hid (PAtZ w' p m [] ∧ Below w.heap.size w w' ∧ w.heap.size ≤ p ∧ w.heap.size ≤ m) := by
  have hmm := @run_makeMap Try.prog
  have HA : Hid (PAtZ ((w.alloc (.map #[] 0)).alloc (.cells #[.map (some w.heap.size)] 73)) (w.heap.size + 1) w.heap.size [] ∧ Below w.heap.size w ((w.alloc (.map #[] 0)).alloc (.cells #[.map (some w.heap.size)] 73))) := by
    refine ⟨⟨?_, fun x hx => by simp at hx, ⟨fun x hx => by simp at hx, fun x hx => by simp at hx, fun x hx => by simp at hx, .nil⟩, ?_⟩, ((Below.refl _ _).alloc (Nat.le_refl _) _).alloc (by simp) _⟩
    · have := heap_alloc_new (w.alloc (.map #[] 0)) (.cells #[.map (some w.heap.size)] 73)
      simpa using this
    · refine MapFn.congr (f := fun _ => none) ?_ (fun k _ => fOf_nil k)
      exact (mapFn_made (kt := 9) (kl := klZ) (ok := okZ) w).kept (((Below.refl _ (w.alloc (.map #[] 0))).alloc (Nat.le_refl _) _).block _ (by simp))
  go_enter Try.func39, Try.ntmps39
  go_wp2_with fail
  go_ret
  exact ⟨_, _, rfl, (unhide HA).1, (unhide HA).2, by omega, Nat.le_refl _⟩

set_option maxHeartbeats 400000 in
theorem lenZ {p m : Nat} {S : List (Part (List UInt8))} (w : World) (h : PAtZ w p m S) : Calls Try.prog 21 #[.pointer (some ⟨p, 0, none⟩)] w fun e w' => e = .returned (.int .i64 (tot S)) ∧ w' = w := by
  have c1 := h.cell
  have hl := fun ty => h.map.len_ (t := 71) (e := 74) Try.underlying71 ty
  clear h
  go_enter Try.func21, Try.ntmps21
  go_wp2_with fail
  go_ret
  exact ⟨rfl, rfl⟩

set_option maxHeartbeats 400000 in
theorem headNoZ {p m : Nat} {S : List (Part (List UInt8))} (k : (List UInt8)) (w : World) (h : PAtZ w p m S) (hk : okZ k) (hno : ∀ x ∈ S, k ∉ x.ks) : Calls Try.prog 19 #[.pointer (some ⟨p, 0, none⟩), Go.Proofs.encStr k] w fun e w' => e = .returned (.tuple #[(Value.string ByteArray.empty), .bool false]) ∧ w' = w := by
  have c1 := h.cell
  have hl := h.look k hk
  rw [fOf_none.2 hno] at hl
  simp only [ptr] at hl
  clear h
  go_enter Try.func19, Try.ntmps19
  go_wp2_with fail
  go_ret2
  exact ⟨rfl, rfl⟩

set_option maxHeartbeats 400000 in
theorem headZ {p m : Nat} {S : List (Part (List UInt8))} {x : Part (List UInt8)} (k : (List UInt8)) (w : World) (h : PAtZ w p m S) (hx : x ∈ S) (hk : k ∈ x.ks) : Calls Try.prog 19 #[.pointer (some ⟨p, 0, none⟩), Go.Proofs.encStr k] w fun e w' => e = .returned (.tuple #[Go.Proofs.encStr (x.ks.headD ([] : List UInt8)), .bool true]) ∧ w' = w := by
  have c1 := h.cell
  have hl := h.look k (h.fam.keys x hx k hk)
  rw [fOf_some h.fam hx hk] at hl
  simp only [ptr] at hl
  obtain ⟨g, c, e, -, -, -, -, hc⟩ := (h.rows x hx).some_ (h.fam.some_ x hx)
  have c2 := (h.rows x hx).cell.1
  have hpos : 0 < x.ks.length := List.length_pos_iff.2 (h.fam.some_ x hx)
  have c3 := hc 0 hpos
  rw [show x.ks.getD 0 ([] : List UInt8) = x.ks.headD ([] : List UInt8) by cases x.ks <;> rfl] at c3
  rw [e] at c2
  have hz : (0 : Int) < (x.ks.length : Int) := by omega
  generalize x.ks.headD ([] : List UInt8) = hd at *
  generalize x.ks.length = L at *
  generalize x.q = q at *
  clear h hc
  go_enter Try.func19, Try.ntmps19
  go_wp2_with fail
  go_ret2
  exact ⟨rfl, rfl⟩

set_option maxHeartbeats 1000000 in
theorem sameZ {p m : Nat} {S : List (Part (List UInt8))} (a b : (List UInt8)) (w : World) (h : PAtZ w p m S) (ha : okZ a) (hb : okZ b) : Calls Try.prog 20 #[.pointer (some ⟨p, 0, none⟩), Go.Proofs.encStr a, Go.Proofs.encStr b] w fun e w' => e = .returned (.bool ((fOf S a).isSome && fOf S a == fOf S b)) ∧ w' = w := by
  have c1 := h.cell
  have hl := h.look a ha
  have hl2 := h.look b hb
  have HEQ : Hid (∀ x y, fOf S a = some x → fOf S b = some y → (binOp .eql 74 (.pointer (some ⟨x, 0, none⟩)) (.pointer (some ⟨y, 0, none⟩))).run Try.prog w = .ok (.bool (decide (x = y))) w) := fun x y h1 h2 => by
    obtain ⟨x', hx, -, rfl⟩ := fOf_mem h1
    obtain ⟨y', hy, -, rfl⟩ := fOf_mem h2
    exact h.eql hx hy
  clear h
  cases hfa : fOf S a with
  | none =>
    rw [hfa] at hl
    simp only [ptr] at hl
    go_enter Try.func20, Try.ntmps20
    go_wp2_with fail
    go_ret
    exact ⟨rfl, rfl⟩
  | some x =>
    rw [hfa] at hl
    simp only [ptr] at hl
    cases hfb : fOf S b with
    | none =>
      rw [hfb] at hl2
      simp only [ptr] at hl2
      go_enter Try.func20, Try.ntmps20
      go_wp2_with fail
      go_ret
      exact ⟨rfl, rfl⟩
    | some y =>
      rw [hfb] at hl2
      simp only [ptr] at hl2
      have heq := unhide HEQ x y hfa hfb
      go_enter Try.func20, Try.ntmps20
      go_wp2_with fail
      go_ret
      exact ⟨by by_cases e : x = y <;> simp [e], rfl⟩
end Go.Proofs.Ytfhidghjmookhaa
