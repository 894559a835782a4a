/- bramblelaw03.HeapTexts answers true for every slice of texts, and its argument reads behind the call as it read before. -/
import Derived.Test.YtfhpabcjbjmcmaaTextsWalk
import Derived.Test.YtfhpabcjbjmcmaaFrame
namespace Go.Proofs.Ytfhpabcjbjmcmaa.heapTexts
open Go.ChangeShapes Go.WideShapes Go.ChangeAt Go.RowKit

/-- It is empty; or its cells are these texts. -/
def IsTexts (w : World) (a : Option Addr) (len : Nat) (z : Nat → ByteArray) : Prop := IsCells w a len (fun i => .string (z i))
theorem open_ss {H : Type} {enc : TypeId × Value → H} {W : World} {spare : Nat → Bool} {held : Bool} {a : Option Addr} {len cap : Nat} {d : DataW H} {p : List MemPlace} (h : DataW.Trod enc Try.prog W 0 spare held 39 (.slice a len cap) d p) :
    ∃ z, (IsTexts W a len z ∧ ∀ i, i < len → (z i).size ≤ maxLen) ∧ (d = .nil ∧ len = 0 ∨ ∃ es sp, d = .slice es sp ∧ len ≤ es.length) := by
  have i0 : Inhabited { b : ByteArray // b.size ≤ maxLen } := ⟨⟨ByteArray.empty, Nat.zero_le _⟩⟩
  obtain ⟨z, h1, h2⟩ := open_one (fun x : { b : ByteArray // b.size ≤ maxLen } => .string x.1) Try.underlying39 cells9 (fun n u y hy => by
    obtain ⟨k, e, hk⟩ := DataW.trod_string Try.underlying9 hy
    exact ⟨⟨k, hk.2⟩, by simpa using e⟩) h
  exact ⟨fun i => (z i).1, ⟨h1, fun i _ => (z i).2⟩, h2⟩

theorem walk (a : Option Addr) (len cap : Nat) (z : Nat → ByteArray) (w : World) (h : IsTexts w a len z ∧ ∀ i, i < len → (z i).size ≤ maxLen) (_ : len * 16 ≤ 140737488351232) :
    Calls Try.prog 6 #[.slice a len cap] w fun e w' => e = .returned (.bool true) ∧ Below w.heap.size w w' := by
  have i1 : Inhabited EntT := ⟨⟨ByteArray.empty, (0, 0), 0⟩⟩
  have i2 : Inhabited EntS := ⟨⟨ByteArray.empty, 0, 0⟩⟩
  rcases h with ⟨rfl | ⟨b, off, rfl, -, hc⟩, hz⟩
  · exact texts_any a 0 0 0 cap _ z w rfl hz (fun i hi => absurd hi (Nat.not_lt_zero _))
  · exact texts_any _ b off len cap _ z w rfl hz (fun i hi => ⟨rfl, hc i hi⟩)

set_option maxRecDepth 100000 in
theorem lifted (os : Os) (started : os.Started) (H : Type) (enc : TypeId × Value → H) :
    ReturnsInHanded {} Try.checked os 6 .any (Rows.heapTextsSpec.pre6 enc Try.prog Try.f6 Rows.heapTextsRow.domain false) (Rows.heapTextsSpec.post enc Try.prog Try.f6 false true false false) := by
  refine returnsInHanded_of_change_sized (C := Try.checked) own started (by kernel_rfl) Try.func6
    (ChangeSpec.witness6 (enc := enc) (C := Try.checked) false ⟨#[], #[.slice none 0 0], []⟩ 8 (by kernel_rfl) (by kernel_rfl) (by kernel_rfl) (by kernel_rfl)) ?_
  intro W base args ds gs before hval0 hW _ hsz _
  have hval : ∀ (j : Nat) t v, Try.f6.params[j]? = some t → args[j]? = some v → Value.okWide Try.prog W .any base t v := hval0
  have hW' := hW
  obtain ⟨p, q, hA0, hV, rfl, -, -⟩ := hW
  have hA : DataW.TrodAll enc Try.prog W 0 (fun _ => true) true Try.f6.params.toList args.toList ds p := hA0
  rw [Try.params6] at hA hval
  obtain ⟨v0, vs0, d0, ds0, p0, q0, hargs, rfl, rfl, h0, r0⟩ := trodAll_cons hA
  obtain ⟨rfl, rfl, rfl⟩ := trodAll_nil r0
  obtain rfl : args = #[v0] := by cases args; simp_all
  obtain ⟨rfl, rfl⟩ := trodVars_none hV
  obtain ⟨a0, len0, cap0, rfl⟩ := okWide_slice Try.underlying39 (hval 0 39 v0 rfl rfl)
  have lt0 : ∀ x ∈ p0, x.block < W.heap.size := by obtain ⟨m, hm⟩ := h0; exact DataW.trod_lt m _ _ _ hm
  obtain ⟨o0, ho0, hd0⟩ := open_ss h0
  have hb0 : len0 * 16 ≤ 140737488351232 := by
    rcases hd0 with ⟨-, h⟩ | ⟨es, sp, rfl, h⟩
    · omega
    · have := sized_slice hsz (j := 0) (t := 39) (e := 9) rfl rfl Try.underlying39
      rw [show Try.checked.prog.bytesOf 9 = 16 from bytes9] at this
      unfold reachBytes at this
      omega
  clear hA0 hval0
  refine (walk a0 len0 cap0 o0 W ho0 (by omega)).mono fun e W' ⟨he, bel⟩ => ?_
  subst he
  exact ⟨_, rfl, _, _, _, [], _, [], hW', trodAll_mk1 (shut_bool Try.underlying4 _), (trodAll_cons_mk (Below.trod laidOut (by kernel_rfl) (of_decide_eq_true (by kernel_rfl)) h0 bel lt0) trodAll_mk0), rfl, bel.frame _, fun h => by cases h⟩
end Go.Proofs.Ytfhpabcjbjmcmaa.heapTexts
namespace Go.Proofs.Ytfhpabcjbjmcmaa
theorem heapTexts_said : Rows.HeapTextsSaid :=
  OpenClaim.holds_of_wide 6 Try.f6 rfl rfl rfl rfl rfl rfl rfl ⟨rfl, rfl, rfl, rfl, rfl⟩ rfl rfl rfl rfl rfl (by kernel_rfl) Try.func6 (by kernel_rfl)
    (of_decide_eq_true (by kernel_rfl)) (by unfold Func.isWrapper; first | (rw [if_pos (by decide +kernel)]; kernel_rfl) | (rw [if_neg (by decide +kernel)]; exact ⟨rfl, rfl⟩))
    (fun os started H enc _ => heapTexts.lifted os started H enc)
#print axioms heapTexts_said
end Go.Proofs.Ytfhpabcjbjmcmaa
