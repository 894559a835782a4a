/- slices.Clone over ints (its contract laid at this program's numbers), and the store's Out and In. -/
import Derived.Test.YtagibmgbjhemkaaGreatStDropV
import Derived.Shelf.Slices.Clone
namespace Go.Proofs
def Tryz.laysCl_ren : Go.Shelf.Ren := ⟨fun | 15 => 95 | n => n, fun | 22 => 25 | 3 => 3 | 4 => 4 | n => n, fun | n => n⟩
theorem Tryz.laysCl : Go.Proofs.Lays2.n15 Tryz.prog Tryz.laysCl_ren := {
  mixed := by kernel_rfl
  f15 := Tryz.func95.trans (congrArg some (by kernel_rfl))
  t3 := Tryz.underlying3
  a3 := Tryz.isAgg3
  z3 := Tryz.sizeOf3
  v3 := Tryz.zeroValue3
  t4 := Tryz.underlying4
  a4 := Tryz.isAgg4
  z4 := Tryz.sizeOf4
  v4 := Tryz.zeroValue4
  t22 := Tryz.underlying25
  a22 := Tryz.isAgg25
  z22 := Tryz.sizeOf25
  v22 := Tryz.zeroValue25
  i3 := by kernel_rfl }
end Go.Proofs
namespace Go.Proofs.YtagibmgbjhemkaaGreat
open Go.RowKit Go.Maps Go.Shelf
theorem cloneI {v : Value} {ks : List Int} (w : World) (h : NRow w v ks) (hl : ks.length ≤ 1000000) :
    Calls Tryz.prog 95 #[v] w fun e w' => ∃ v', e = .returned v' ∧ Hid (BRow w.heap.size w' v' ks ∧ Below w.heap.size w w') := by
  rcases nrow_shape h with ⟨rfl, rfl⟩ | ⟨g, c, rfl⟩
  · refine (Any.slices_Clone_int_nil Tryz.laysCl 0 0 w).mono ?_
    rintro e w' ⟨rfl, rfl⟩
    exact ⟨_, rfl, ⟨rfl, .inl ⟨rfl, rfl⟩⟩, Below.refl _ _⟩
  · refine (Any.slices_Clone_int Tryz.laysCl g 0 ks.length c ks w (Nat.le_refl _) (by omega) (fun j hj => by rw [Nat.zero_add]; exact (nrow_some h).2.2.2.2 j hj)).mono ?_
    rintro e w' ⟨v', rfl, g1, -, g2⟩
    rw [List.take_length] at g1; exact ⟨v', rfl, g1, g2⟩
section
variable [Inhabited EntI] {w w' : World} {X X' : Sto}
set_option maxHeartbeats 1000000 in
set_option maxRecDepth 100000 in
theorem outNo (k : Int) (h : StAt w X) (hk : okN k) (hf : X.f k = none) : Calls Tryz.prog 59 #[.pointer (some ⟨X.s, 0, none⟩), .int .i64 k] w fun r w' => r = .returned (.slice none 0 0) ∧ w' = w := by
  obtain ⟨-, c1, -, -, -⟩ := h.cells; have hl := h.look2 k hk; rw [hf] at hl; simp only [ptr, Option.isSome_none] at hl; generalize X.s = s at *; generalize X.m = m at *; clear h hf
  go_enter Tryz.func59, Tryz.ntmps59
  go_wp2_with fail
  go_ret
  exact ⟨rfl, rfl⟩
set_option maxHeartbeats 1000000 in
set_option maxRecDepth 100000 in
theorem outS {k : Int} (h : StAt w X) (hf : X.f k ≠ none) : Calls Tryz.prog 59 #[.pointer (some ⟨X.s, 0, none⟩), .int .i64 k] w fun r w' => ∃ v', r = .returned v' ∧ Hid (BRow w.heap.size w' v' (outs X.ps k) ∧ Below w.heap.size w w') := by
  obtain ⟨q, hq⟩ : ∃ q, X.f k = some q := by cases e : X.f k with | none => exact absurd e hf | some q => exact ⟨q, rfl⟩
  obtain ⟨-, c1, -, -, -⟩ := h.cells; have hl := h.look2 k (h.ok hq); rw [hq] at hl; simp only [ptr, Option.isSome_some] at hl; obtain ⟨e0, e1, -⟩ := h.mem.ends hq; have hrow := h.mem.out k q hq; have hlen : (outs X.ps k).length ≤ 1000000 := Nat.le_trans (length_numsOf _ _) (by have := h.tab.len; omega)
  have CC := hide (cloneI w hrow hlen); obtain ⟨a, c, hv, -⟩ := brow_shape hrow; obtain ⟨n, hv'⟩ : ∃ n, X.ro k = .slice a n c := ⟨_, hv⟩; rw [hv'] at CC e0; generalize X.s = s at *; generalize X.m = m at *; clear h hf hq hrow hlen hv hv'
  go_enter Tryz.func59, Tryz.ntmps59
  go_wp2_with fail
  refine (unhide CC).mono ?_
  rintro e u ⟨v', rfl, hh⟩
  obtain ⟨a3, c3, hv3, -⟩ := brow_shape (unhide hh).1; obtain ⟨n3, hv4⟩ : ∃ n3, v' = .slice a3 n3 c3 := ⟨_, hv3⟩; clear CC hv3; subst hv4
  go_wp2_with fail
  go_ret
  exact ⟨_, rfl, unhide hh⟩
set_option maxHeartbeats 1000000 in
set_option maxRecDepth 100000 in
theorem innNo (k : Int) (h : StAt w X) (hk : okN k) (hf : X.f k = none) : Calls Tryz.prog 60 #[.pointer (some ⟨X.s, 0, none⟩), .int .i64 k] w fun r w' => r = .returned (.slice none 0 0) ∧ w' = w := by
  obtain ⟨-, c1, -, -, -⟩ := h.cells; have hl := h.look2 k hk; rw [hf] at hl; simp only [ptr, Option.isSome_none] at hl; generalize X.s = s at *; generalize X.m = m at *; clear h hf
  go_enter Tryz.func60, Tryz.ntmps60
  go_wp2_with fail
  go_ret
  exact ⟨rfl, rfl⟩
set_option maxHeartbeats 1000000 in
set_option maxRecDepth 100000 in
theorem innS {k : Int} (h : StAt w X) (hf : X.f k ≠ none) : Calls Tryz.prog 60 #[.pointer (some ⟨X.s, 0, none⟩), .int .i64 k] w fun r w' => ∃ v', r = .returned v' ∧ Hid (BRow w.heap.size w' v' (inns X.ps k) ∧ Below w.heap.size w w') := by
  obtain ⟨q, hq⟩ : ∃ q, X.f k = some q := by cases e : X.f k with | none => exact absurd e hf | some q => exact ⟨q, rfl⟩
  obtain ⟨-, c1, -, -, -⟩ := h.cells; have hl := h.look2 k (h.ok hq); rw [hq] at hl; simp only [ptr, Option.isSome_some] at hl; obtain ⟨e0, e1, -⟩ := h.mem.ends hq; have hrow := h.mem.inn k q hq; have hlen : (inns X.ps k).length ≤ 1000000 := Nat.le_trans (length_numsOf _ _) (by have := h.tab.len; omega)
  have CC := hide (cloneI w hrow hlen); obtain ⟨a, c, hv, -⟩ := brow_shape hrow; obtain ⟨n, hv'⟩ : ∃ n, X.ri k = .slice a n c := ⟨_, hv⟩; rw [hv'] at CC e1; generalize X.s = s at *; generalize X.m = m at *; clear h hf hq hrow hlen hv hv'
  go_enter Tryz.func60, Tryz.ntmps60
  go_wp2_with fail
  refine (unhide CC).mono ?_
  rintro e u ⟨v', rfl, hh⟩
  obtain ⟨a3, c3, hv3, -⟩ := brow_shape (unhide hh).1; obtain ⟨n3, hv4⟩ : ∃ n3, v' = .slice a3 n3 c3 := ⟨_, hv3⟩; clear CC hv3; subst hv4
  go_wp2_with fail
  go_ret
  exact ⟨_, rfl, unhide hh⟩
end
end Go.Proofs.YtagibmgbjhemkaaGreat
