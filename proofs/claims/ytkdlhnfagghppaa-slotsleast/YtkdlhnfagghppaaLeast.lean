/- bramblelaw04.SlotsLeast answers true for every int and every slice of ints, and its arguments read behind the call as they read before. -/
import Derived.Test.YtkdlhnfagghppaaLeastWalk
import Derived.Test.YtkdlhnfagghppaaFrame
namespace Go.Proofs.Ytkdlhnfagghppaa.slotsLeast
open Go.ChangeShapes Go.WideShapes Go.ChangeAt Go.RowKit

theorem at_ints {w : World} {a : Option Addr} {len : Nat} {z : Nat → Int} (h : IsInts w a len z) : ∃ b off, ∀ i, i < len → a = some ⟨b, off, none⟩ ∧ w.cell? ⟨b, off + i, none⟩ = some (.int .i64 (z i)) := by
  rcases h with rfl | ⟨b, off, rfl, -, hc⟩
  · exact ⟨0, 0, fun i hi => absurd hi (Nat.not_lt_zero _)⟩
  · exact ⟨b, off, fun i hi => ⟨rfl, hc i hi⟩⟩

theorem walk (m : Int) (a : Option Addr) (len cap : Nat) (z : Nat → Int) (w : World) (_ : (Lit.int .i64 m).wf = true) (h : IsInts w a len z) (_ : len * 8 ≤ 140737488351232) :
    Calls Try.prog 4 #[.int .i64 m, .slice a len cap] w fun e w' => e = .returned (.bool true) ∧ Below w.heap.size w w' := by
  have i1 : Inhabited EntI := ⟨⟨0, 0, 0⟩⟩
  obtain ⟨b, off, hc⟩ := at_ints h
  exact least_any m a b off len cap z w hc

set_option maxRecDepth 100000 in
theorem lifted (os : Os) (started : os.Started) (H : Type) (enc : TypeId × Value → H) :
    ReturnsInHanded {} Try.checked os 4 .any (Rows.slotsLeastSpec.pre6 enc Try.prog Try.f4 Rows.slotsLeastRow.domain false) (Rows.slotsLeastSpec.post enc Try.prog Try.f4 false true false false) := by
  refine returnsInHanded_of_change_sized (C := Try.checked) own started (by kernel_rfl) Try.func4
    (ChangeSpec.witness6 (enc := enc) (C := Try.checked) false ⟨#[], #[.int .i64 0, .slice none 0 0], []⟩ 8 (by kernel_rfl) (by kernel_rfl) (by kernel_rfl) (by kernel_rfl)) ?_
  intro W base args ds gs before hval0 hW _ hsz _
  have hval : ∀ (j : Nat) t v, Try.f4.params[j]? = some t → args[j]? = some v → Value.okWide Try.prog W .any base t v := hval0
  have hW' := hW
  obtain ⟨p, q, hA0, hV, rfl, -, -⟩ := hW
  have hA : DataW.TrodAll enc Try.prog W 0 (fun _ => true) true Try.f4.params.toList args.toList ds p := hA0
  rw [Try.params4] at hA hval
  obtain ⟨v0, vs0, d0, ds0, p0, q0, hargs, rfl, rfl, h0, r0⟩ := trodAll_cons hA
  obtain ⟨v1, vs1, d1, ds1, p1, q1, rfl, rfl, rfl, h1, r1⟩ := trodAll_cons r0
  obtain ⟨rfl, rfl, rfl⟩ := trodAll_nil r1
  obtain rfl : args = #[v0, v1] := by cases args; simp_all
  obtain ⟨rfl, rfl⟩ := trodVars_none hV
  obtain ⟨x0, rfl, rfl, rfl, w0⟩ := open_int Try.underlying3 (hval 0 3 v0 rfl rfl) h0
  obtain ⟨a1, len1, cap1, rfl⟩ := okWide_slice Try.underlying37 (hval 1 37 v1 rfl rfl)
  have lt1 : ∀ x ∈ p1, x.block < W.heap.size := by obtain ⟨m, hm⟩ := h1; exact DataW.trod_lt m _ _ _ hm
  obtain ⟨o1, ho1, hd1⟩ := open_is h1
  have hb1 : len1 * 8 ≤ 140737488351232 := by
    rcases hd1 with ⟨-, h⟩ | ⟨es, sp, rfl, h⟩
    · omega
    · have := sized_slice hsz (j := 1) (t := 37) (e := 3) rfl rfl Try.underlying37
      rw [show Try.checked.prog.bytesOf 3 = 8 from bytes3] at this
      unfold reachBytes at this
      omega
  clear hA0 hval0
  refine (walk x0 a1 len1 cap1 o1 W w0 ho1 (by omega)).mono fun e W' ⟨he, bel⟩ => ?_
  subst he
  exact ⟨_, rfl, _, _, _, [], _, [], hW', trodAll_mk1 (shut_bool Try.underlying4 _), (trodAll_cons_mk (shut_int Try.underlying3 w0) (trodAll_cons_mk (Below.trod laidOut (by kernel_rfl) (of_decide_eq_true (by kernel_rfl)) h1 bel lt1) trodAll_mk0)), rfl, bel.frame _, fun h => by cases h⟩
end Go.Proofs.Ytkdlhnfagghppaa.slotsLeast
namespace Go.Proofs.Ytkdlhnfagghppaa
theorem slotsLeast_said : Rows.SlotsLeastSaid :=
  OpenClaim.holds_of_wide 4 Try.f4 rfl rfl rfl rfl rfl rfl rfl ⟨rfl, rfl, rfl, rfl, rfl⟩ rfl rfl rfl rfl rfl (by kernel_rfl) Try.func4 (by kernel_rfl)
    (of_decide_eq_true (by kernel_rfl)) (by unfold Func.isWrapper; first | (rw [if_pos (by decide +kernel)]; kernel_rfl) | (rw [if_neg (by decide +kernel)]; exact ⟨rfl, rfl⟩))
    (fun os started H enc _ => slotsLeast.lifted os started H enc)
#print axioms slotsLeast_said
end Go.Proofs.Ytkdlhnfagghppaa
