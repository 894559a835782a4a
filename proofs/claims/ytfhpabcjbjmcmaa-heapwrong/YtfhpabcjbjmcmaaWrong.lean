/- bramblelaw03.HeapWrong answers true for every slice of calls and every slice of answers of the order, and its arguments read behind the call as they read before. -/
import Derived.Test.YtfhpabcjbjmcmaaWrongM
import Derived.Test.YtfhpabcjbjmcmaaFrame
namespace Go.Proofs.Ytfhpabcjbjmcmaa.heapWrong
open Go.ChangeShapes Go.WideShapes Go.ChangeAt Go.RowKit

theorem walk (a : Option Addr) (len cap : Nat) (o : Nat → Int × Int × Int) (a1 : Option Addr) (len1 cap1 : Nat) (z : Nat → Bool) (w : World) (h : IsOps w a len o) (_ : len * 24 ≤ 140737488351232) (h1 : IsBools w a1 len1 z) (_ : len1 * 1 ≤ 140737488351232) :
    Calls Try.prog 7 #[.slice a len cap, .slice a1 len1 cap1] w fun e w' => e = .returned (.bool true) ∧ Below w.heap.size w w' := by
  have i1 : Inhabited EntI := ⟨⟨0, 0, 0⟩⟩
  have i2 : Inhabited EntS := ⟨⟨ByteArray.empty, 0, 0⟩⟩
  refine wrong_any a len cap o a1 len1 cap1 z w (fun i hi => ?_) (fun j hj => ?_)
  · rcases h with rfl | ⟨b, off, rfl, -, hc⟩
    · omega
    · exact ⟨b, off, rfl, World.block_lt_of_cell? _ _ (hc i hi).1.1, (hc i hi).1⟩
  · rcases h1 with rfl | ⟨b, off, rfl, -, hc⟩
    · omega
    · exact ⟨b, off, rfl, World.block_lt_of_cell? _ _ (hc j hj), hc j hj⟩

set_option maxRecDepth 100000 in
theorem lifted (os : Os) (started : os.Started) (H : Type) (enc : TypeId × Value → H) :
    ReturnsInHanded {} Try.checked os 7 .any (Rows.heapWrongSpec.pre6 enc Try.prog Try.f7 Rows.heapWrongRow.domain false) (Rows.heapWrongSpec.post enc Try.prog Try.f7 false true false false) := by
  refine returnsInHanded_of_change_sized (C := Try.checked) own started (by kernel_rfl) Try.func7
    (ChangeSpec.witness6 (enc := enc) (C := Try.checked) false ⟨#[], #[.slice none 0 0, .slice none 0 0], []⟩ 8 (by kernel_rfl) (by kernel_rfl) (by kernel_rfl) (by kernel_rfl)) ?_
  intro W base args ds gs before hval0 hW _ hsz _
  have hval : ∀ (j : Nat) t v, Try.f7.params[j]? = some t → args[j]? = some v → Value.okWide Try.prog W .any base t v := hval0
  have hW' := hW
  obtain ⟨p, q, hA0, hV, rfl, -, -⟩ := hW
  have hA : DataW.TrodAll enc Try.prog W 0 (fun _ => true) true Try.f7.params.toList args.toList ds p := hA0
  rw [Try.params7] at hA hval
  obtain ⟨v0, vs0, d0, ds0, p0, q0, hargs, rfl, rfl, h0, r0⟩ := trodAll_cons hA
  obtain ⟨v1, vs1, d1, ds1, p1, q1, rfl, rfl, rfl, h1, r1⟩ := trodAll_cons r0
  obtain ⟨rfl, rfl, rfl⟩ := trodAll_nil r1
  obtain rfl : args = #[v0, v1] := by cases args; simp_all
  obtain ⟨rfl, rfl⟩ := trodVars_none hV
  obtain ⟨a0, len0, cap0, rfl⟩ := okWide_slice Try.underlying22 (hval 0 22 v0 rfl rfl)
  have lt0 : ∀ x ∈ p0, x.block < W.heap.size := by obtain ⟨m, hm⟩ := h0; exact DataW.trod_lt m _ _ _ hm
  obtain ⟨o0, ho0, hd0⟩ := open_ops h0
  have hb0 : len0 * 24 ≤ 140737488351232 := by
    rcases hd0 with ⟨-, h⟩ | ⟨es, sp, rfl, h⟩
    · omega
    · have := sized_slice hsz (j := 0) (t := 22) (e := 31) rfl rfl Try.underlying22
      rw [show Try.checked.prog.bytesOf 31 = 24 from bytes31] at this
      unfold reachBytes at this
      omega
  obtain ⟨a1, len1, cap1, rfl⟩ := okWide_slice Try.underlying49 (hval 1 49 v1 rfl rfl)
  have lt1 : ∀ x ∈ p1, x.block < W.heap.size := by obtain ⟨m, hm⟩ := h1; exact DataW.trod_lt m _ _ _ hm
  obtain ⟨o1, ho1, hd1⟩ := open_bs h1
  have hb1 : len1 * 1 ≤ 140737488351232 := by
    rcases hd1 with ⟨-, h⟩ | ⟨es, sp, rfl, h⟩
    · omega
    · have := sized_slice hsz (j := 1) (t := 49) (e := 4) rfl rfl Try.underlying49
      rw [show Try.checked.prog.bytesOf 4 = 1 from bytes4] at this
      unfold reachBytes at this
      omega
  clear hA0 hval0
  refine (walk a0 len0 cap0 o0 a1 len1 cap1 o1 W ho0 (by omega) ho1 (by omega)).mono fun e W' ⟨he, bel⟩ => ?_
  subst he
  exact ⟨_, rfl, _, _, _, [], _, [], hW', trodAll_mk1 (shut_bool Try.underlying4 _), (trodAll_cons_mk (Below.trod laidOut (by kernel_rfl) (of_decide_eq_true (by kernel_rfl)) h0 bel lt0) (trodAll_cons_mk (Below.trod laidOut (by kernel_rfl) (of_decide_eq_true (by kernel_rfl)) h1 bel lt1) trodAll_mk0)), rfl, bel.frame _, fun h => by cases h⟩
end Go.Proofs.Ytfhpabcjbjmcmaa.heapWrong
namespace Go.Proofs.Ytfhpabcjbjmcmaa
theorem heapWrong_said : Rows.HeapWrongSaid :=
  OpenClaim.holds_of_wide 7 Try.f7 rfl rfl rfl rfl rfl rfl rfl ⟨rfl, rfl, rfl, rfl, rfl⟩ rfl rfl rfl rfl rfl (by kernel_rfl) Try.func7 (by kernel_rfl)
    (of_decide_eq_true (by kernel_rfl)) (by unfold Func.isWrapper; first | (rw [if_pos (by decide +kernel)]; kernel_rfl) | (rw [if_neg (by decide +kernel)]; exact ⟨rfl, rfl⟩))
    (fun os started H enc _ => heapWrong.lifted os started H enc)
#print axioms heapWrong_said
end Go.Proofs.Ytfhpabcjbjmcmaa
