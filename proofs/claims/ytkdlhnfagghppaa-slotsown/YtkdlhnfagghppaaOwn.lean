/- bramblelaw04.SlotsOwn answers true for every slice of calls and every int, and its arguments read behind the call as they read before. -/
import Derived.Test.YtkdlhnfagghppaaOwn9
import Derived.Test.YtkdlhnfagghppaaFrame
namespace Go.Proofs.Ytkdlhnfagghppaa.slotsOwn
open Go.ChangeShapes Go.WideShapes Go.ChangeAt Go.RowKit

theorem at_ops {w : World} {a : Option Addr} {len : Nat} {o : Nat → Int × Int × Int} (h : IsOps w a len o) : ∃ b off, ∀ i, i < len → a = some ⟨b, off, none⟩ ∧ (w.cell? ⟨b, off + i * 3, none⟩ = some (.int .i64 (o i).1) ∧ w.cell? ⟨b, off + i * 3 + 1, none⟩ = some (.int .i64 (o i).2.1) ∧ w.cell? ⟨b, off + i * 3 + 2, none⟩ = some (.int .i64 (o i).2.2)) := by
  rcases h with rfl | ⟨b, off, rfl, -, hc⟩
  · exact ⟨0, 0, fun i hi => absurd hi (Nat.not_lt_zero _)⟩
  · exact ⟨b, off, fun i hi => ⟨rfl, (hc i hi).1⟩⟩

theorem walk (m : Int) (a : Option Addr) (len cap : Nat) (o : Nat → Int × Int × Int) (w : World) (h : IsOps w a len o) :
    Calls Try.prog 6 #[.slice a len cap, .int .i64 m] w fun e w' => e = .returned (.bool true) ∧ Below w.heap.size w w' := by
  have i1 : Inhabited EntI := ⟨⟨0, 0, 0⟩⟩
  obtain ⟨b, off, hc⟩ := at_ops h
  exact slots_own_any m a b off len cap o w hc

set_option maxRecDepth 100000 in
theorem lifted (os : Os) (started : os.Started) (H : Type) (enc : TypeId × Value → H) :
    ReturnsInHanded {} Try.checked os 6 .any (Rows.slotsOwnSpec.pre6 enc Try.prog Try.f6 Rows.slotsOwnRow.domain false) (Rows.slotsOwnSpec.post enc Try.prog Try.f6 false true false false) := by
  refine returnsInHanded_of_change_sized (C := Try.checked) own started (by kernel_rfl) Try.func6
    (ChangeSpec.witness6 (enc := enc) (C := Try.checked) false ⟨#[], #[.slice none 0 0, .int .i64 0], []⟩ 8 (by kernel_rfl) (by kernel_rfl) (by kernel_rfl) (by kernel_rfl)) ?_
  intro W base args ds gs before hval0 hW _ hsz _
  have hval : ∀ (j : Nat) t v, Try.f6.params[j]? = some t → args[j]? = some v → Value.okWide Try.prog W .any base t v := hval0
  have hW' := hW
  obtain ⟨p, q, hA0, hV, rfl, -, -⟩ := hW
  have hA : DataW.TrodAll enc Try.prog W 0 (fun _ => true) true Try.f6.params.toList args.toList ds p := hA0
  rw [Try.params6] at hA hval
  obtain ⟨v0, vs0, d0, ds0, p0, q0, hargs, rfl, rfl, h0, r0⟩ := trodAll_cons hA
  obtain ⟨v1, vs1, d1, ds1, p1, q1, rfl, rfl, rfl, h1, r1⟩ := trodAll_cons r0
  obtain ⟨rfl, rfl, rfl⟩ := trodAll_nil r1
  obtain rfl : args = #[v0, v1] := by cases args; simp_all
  obtain ⟨rfl, rfl⟩ := trodVars_none hV
  obtain ⟨a1, len1, cap1, rfl⟩ := okWide_slice Try.underlying22 (hval 0 22 v0 rfl rfl)
  obtain ⟨x0, rfl, rfl, rfl, w0⟩ := open_int Try.underlying3 (hval 1 3 v1 rfl rfl) h1
  have lt1 : ∀ x ∈ p0, x.block < W.heap.size := by obtain ⟨m, hm⟩ := h0; exact DataW.trod_lt m _ _ _ hm
  obtain ⟨o1, ho1, hd1⟩ := open_ops h0
  clear hA0 hval0
  refine (walk x0 a1 len1 cap1 o1 W ho1).mono fun e W' ⟨he, bel⟩ => ?_
  subst he
  exact ⟨_, rfl, _, _, _, [], _, [], hW', trodAll_mk1 (shut_bool Try.underlying4 _), (trodAll_cons_mk (Below.trod laidOut (by kernel_rfl) (of_decide_eq_true (by kernel_rfl)) h0 bel lt1) (trodAll_cons_mk (shut_int Try.underlying3 w0) trodAll_mk0)), rfl, bel.frame _, fun h => by cases h⟩
end Go.Proofs.Ytkdlhnfagghppaa.slotsOwn
namespace Go.Proofs.Ytkdlhnfagghppaa
theorem slotsOwn_said : Rows.SlotsOwnSaid :=
  OpenClaim.holds_of_wide 6 Try.f6 rfl rfl rfl rfl rfl rfl rfl ⟨rfl, rfl, rfl, rfl, rfl⟩ rfl rfl rfl rfl rfl (by kernel_rfl) Try.func6 (by kernel_rfl)
    (of_decide_eq_true (by kernel_rfl)) (by unfold Func.isWrapper; first | (rw [if_pos (by decide +kernel)]; kernel_rfl) | (rw [if_neg (by decide +kernel)]; exact ⟨rfl, rfl⟩))
    (fun os started H enc _ => slotsOwn.lifted os started H enc)
#print axioms slotsOwn_said
end Go.Proofs.Ytkdlhnfagghppaa
