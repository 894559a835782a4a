/- bramblelaw04.awake: it answers true. -/
import Derived.Test.YtkdlhnfagghppaaLiveZ
import Derived.Test.YtkdlhnfagghppaaOne
namespace Go.Proofs.Ytkdlhnfagghppaa
open Go.RowKit Go.Maps

def ta : ByteArray := ⟨#[97]⟩
def tb : ByteArray := ⟨#[98]⟩
def tc : ByteArray := ⟨#[99]⟩

theorem full_cons {α : Type} {ps : List (α × Bool)} {n : Nat} {a : α} (h : Full ps n) : Full ((a, true) :: ps) (n + 1) := fun j hj => by
  match j, hj with
  | 0, _ => exact ⟨a, rfl⟩
  | j + 1, hj => simpa using h j (by omega)
theorem full_zero {α : Type} (ps : List (α × Bool)) : Full ps 0 := fun _ hj => absurd hj (Nat.not_lt_zero _)

section
variable [Inhabited EntI] {B : Nat} {w0 w : World} {t n : Nat}
theorem aw1 (h : LiveZ B w0 t 3 [] n w) (hn : n ≤ 1000) : Calls Try.prog 22 #[.pointer (some ⟨t, 0, none⟩), .string ⟨#[97]⟩] w fun e w' => e = .returned (.tuple #[.int .i64 1, .bool true]) ∧ Hid (∃ n', n' ≤ n + 65536 ∧ LiveZ B w0 t 3 [(ta, true)] n' w') :=
  putYesLZ 0 ta h (fun r hr => free_end (full_zero _) (by simp) hr) (by omega) (by simp) (by omega)
theorem aw2 (h : LiveZ B w0 t 3 [(ta, true)] n w) (hn : n ≤ 100000) : Calls Try.prog 22 #[.pointer (some ⟨t, 0, none⟩), .string ⟨#[98]⟩] w fun e w' => e = .returned (.tuple #[.int .i64 2, .bool true]) ∧ Hid (∃ n', n' ≤ n + 65536 ∧ LiveZ B w0 t 3 [(ta, true), (tb, true)] n' w') :=
  putYesLZ 1 tb h (fun r hr => free_end (full_cons (full_zero _)) (by simp) hr) (by omega) (by simp) (by omega)
theorem aw3 (h : LiveZ B w0 t 3 [(ta, true), (tb, true)] n w) (hn : n ≤ 200000) : Calls Try.prog 27 #[.pointer (some ⟨t, 0, none⟩), .int .i64 1] w fun e w' => e = .returned (.tuple #[.string ⟨#[97]⟩, .bool true]) ∧ Hid (∃ n', n' ≤ n + 65536 ∧ LiveZ B w0 t 3 [(ByteArray.empty, false), (tb, true)] n' w') :=
  dropYesLZ 0 h rfl (by omega)
theorem aw4 (h : LiveZ B w0 t 3 [(ByteArray.empty, false), (tb, true)] n w) : Calls Try.prog 28 #[.pointer (some ⟨t, 0, none⟩)] w fun e w' => e = .returned (.int .i64 1) ∧ ∃ q, w' = w.drewN q :=
  (freeLZ h).mono fun _ _ ⟨r, he, hr, hq⟩ => ⟨by rw [he, free_at (i := 0) rfl (full_zero _) hr]; rfl, hq⟩
theorem aw5 (h : LiveZ B w0 t 3 [(ByteArray.empty, false), (tb, true)] n w) (hn : n ≤ 300000) : Calls Try.prog 29 #[.pointer (some ⟨t, 0, none⟩), .int .i64 3, .string ⟨#[99]⟩] w fun e w' => e = .returned (.bool true) ∧ Hid (∃ n', n' ≤ n + 65536 ∧ LiveZ B w0 t 3 [(ByteArray.empty, false), (tb, true), (tc, true)] n' w') :=
  putAtYesLZ 2 tc h (by omega) (by simp) (by omega)
theorem aw6 (h : LiveZ B w0 t 3 [(ByteArray.empty, false), (tb, true), (tc, true)] n w) : Calls Try.prog 24 #[.pointer (some ⟨t, 0, none⟩)] w fun e w' => e = .returned (.int .i64 2) ∧ ∃ q, w' = w.drewN q := lenLZ h
theorem aw7 (h : LiveZ B w0 t 3 [(ByteArray.empty, false), (tb, true), (tc, true)] n w) : Calls Try.prog 30 #[.pointer (some ⟨t, 0, none⟩), .int .i64 3] w fun e w' => e = .returned (.int .i64 3) ∧ w' = w :=
  (nextLZ 3 h).mono fun _ _ ⟨r, he, hr, hq⟩ => ⟨by rw [he, next_at (i := 2) (a := tc) rfl (by omega) (fun j b hj _ => by omega) hr]; rfl, hq⟩
end

set_option maxHeartbeats 1000000 in
set_option maxRecDepth 100000 in
theorem awake_any [Inhabited EntI] (w : World) : Calls Try.prog 9 #[] w fun e w' => e = .returned (.bool true) ∧ Below w.heap.size w w' := by
  go_enter Try.func9, Try.ntmps9
  go_wp2_with fail
  refine (newLZ 3 w).mono ?_
  rintro e w1 ⟨t, rfl, L1⟩
  have C1 := hide (aw1 L1 (by omega))
  clear L1
  go_wp2_with fail
  refine (unhide C1).mono ?_
  rintro e w2 ⟨rfl, h2⟩
  obtain ⟨n2, l2, L2⟩ := unhide h2
  have C2 := hide (aw2 L2 (by omega))
  clear C1 h2 L2
  go_wp2_with fail
  refine (unhide C2).mono ?_
  rintro e w3 ⟨rfl, h3⟩
  obtain ⟨n3, l3, L3⟩ := unhide h3
  have C3 := hide (aw3 L3 (by omega))
  clear C2 h3 L3
  go_wp2_with fail
  refine (unhide C3).mono ?_
  rintro e w4 ⟨rfl, h4⟩
  obtain ⟨n4, l4, L4⟩ := unhide h4
  have HL4 := hide L4
  have C4 := hide (aw4 L4)
  clear C3 h4 L4
  go_wp2_with fail
  refine (unhide C4).mono ?_
  rintro e w5 ⟨rfl, q, rfl⟩
  have C5 := hide (aw5 ((unhide HL4).draw q) (by omega))
  clear C4 HL4
  go_wp2_with fail
  refine (unhide C5).mono ?_
  rintro e w6 ⟨rfl, h6⟩
  obtain ⟨n6, l6, L6⟩ := unhide h6
  have HL6 := hide L6
  have C6 := hide (aw6 L6)
  clear C5 h6 L6
  go_wp2_with fail
  refine (unhide C6).mono ?_
  rintro e w7 ⟨rfl, q7, rfl⟩
  have C7 := hide (aw7 ((unhide HL6).draw q7))
  have HB := hide ((unhide HL6).draw q7).below
  clear C6 HL6
  go_wp2_with fail
  refine (unhide C7).mono ?_
  rintro e w8 ⟨rfl, rfl⟩
  clear C7
  go_wp2_with fail
  go_ret
  exact ⟨rfl, unhide HB⟩
end Go.Proofs.Ytkdlhnfagghppaa
