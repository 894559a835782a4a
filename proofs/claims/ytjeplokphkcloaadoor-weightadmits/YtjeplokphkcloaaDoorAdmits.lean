/- bramblelaw01.WeightAdmits answers true for every uint32, and its argument reads behind the call as it read before; the listed tables of Go's library hold what their initialisers lay (the card ties that to the program's text). -/
import Derived.Test.YtjeplokphkcloaaDoorFrame
namespace Go.Proofs.YtjeplokphkcloaaDoor.weightAdmits
open Go.ChangeShapes Go.WideShapes Go.ChangeAt Go.RowKit

theorem admW_fin (b : Nat) : admW b < 2139095040 := by unfold admW; (repeat' split) <;> omega
theorem bits_admW (b : Nat) : bitsB (admW b) = (admW b : Int) := by
  have h := admW_fin b
  rw [bitsB_eq (by omega)]
  have : M.nan (admW b) = false := decide_eq_false (by omega)
  rw [this]; rfl

set_option maxHeartbeats 400000 in
theorem walk_nat (b : Nat) (hb : b < 4294967296) (w : World) (hc : w.cell? ⟨4, 15, none⟩ = some (.int .u8 4)) :
    Calls Tryd.prog 3 #[.int .u32 (b : Int)] w fun e w' => e = .returned (.bool true) ∧ Grown w w' := by
  have h4 : 4 < w.heap.size := World.block_lt_of_cell? _ _ hc
  have HF : Hid (∀ w, Calls Tryd.prog 13 #[.int .u32 (b : Int)] w fun e w' => e = .returned (.float .f32 b) ∧ w' = w) := fun w => float_any b w
  have HM := hide (admit_nat b)
  have HR := hide (refAdmit_nat b)
  have HI : Hid (∀ w, Calls Tryd.prog 12 #[.float .f32 (admW b), .int .u32 (admW b : Int)] w fun e w' => e = .returned (.bool true) ∧ w' = w) := fun w => by
    have := is_any (admW b) (admW b : Int) w
    rwa [bits_admW, show (((admW b : Int) == (admW b : Int)) && ((admW b : Int) == (admW b : Int))) = true by simp] at this
  have HC : Hid (∀ w, Calls Tryd.prog 14 #[.float .f32 b] w fun e w' => e = .returned (.bool (decide ((b : Int) ≤ 2139095040))) ∧ w' = w) := fun w => by
    have := cost_any b w
    rwa [show decide (bitsB b ≤ 2139095040) = decide ((b : Int) ≤ 2139095040) by
      apply decide_eq_decide.2
      rw [bitsB_eq hb]
      by_cases hn : 2139095040 < b % 2147483648
      · rw [show M.nan b = true from decide_eq_true hn]; simp; omega
      · rw [show M.nan b = false from decide_eq_false hn]; simp] at this
  have HB : Hid (∀ w, Calls Tryd.prog 15 #[.float .f32 b] w fun e w' => e = .returned (.int .u32 (if M.nan b then 2143289344 else (b : Int))) ∧ w' = w) := fun w => by
    have := bits_any b w
    rwa [bitsB_eq hb] at this
  have HD := hide (refBits_nat b)
  generalize (if M.nan b then 2143289344 else (b : Int)) = t at HB HD
  generalize admW b = aw at HM HR HI
  generalize admE b = ae at HM HR
  go_enter Tryd.func3, Tryd.ntmps3
  go_wp2_with fail
  refine (awake_any _ hc h4).mono ?_
  rintro e w' ⟨rfl, A, rfl⟩
  go_wp2_with fail
  refine (unhide HM _).mono ?_
  rintro e w' ⟨rfl, rfl⟩
  go_wp2_with fail
  refine (unhide HR _).mono ?_
  rintro e w' ⟨rfl, rfl⟩
  go_wp2_with fail
  refine (unhide HI _).mono ?_
  rintro e w' ⟨rfl, rfl⟩
  go_wp2_with fail
  refine (unhide HF _).mono ?_
  rintro e w' ⟨rfl, rfl⟩
  go_wp2_with fail
  refine (unhide HC _).mono ?_
  rintro e w' ⟨rfl, rfl⟩
  go_wp2_with fail
  refine (unhide HB _).mono ?_
  rintro e w' ⟨rfl, rfl⟩
  go_wp2_with fail
  refine (unhide HD _).mono ?_
  rintro e w' ⟨rfl, rfl⟩
  go_wp2
  go_ret
  exact ⟨by simp, by repeat (first | exact Grown.refl _ | apply Grown.drew | apply Grown.alloc)⟩

theorem walk (a0 : Int) (w0 : (Lit.int .u32 a0).wf = true) (w : World) (hc : w.cell? ⟨4, 15, none⟩ = some (.int .u8 4)) :
    Calls Tryd.prog 3 #[.int .u32 a0] w fun e w' => e = .returned (.bool true) ∧ Grown w w' := by
  have b0 := bounds_u32 w0
  obtain ⟨x0, rfl⟩ := Int.eq_ofNat_of_zero_le b0.1
  exact walk_nat x0 (by omega) w hc

theorem contract (H : Type) (enc : TypeId × Value → H) (W : World) (base : Nat) (args : Array Value) (ds gs : List (DataW H)) (before : List MemPlace)
    (hval : ∀ (j : Nat) t v, Tryd.f3.params[j]? = some t → args[j]? = some v → Value.okWide Tryd.prog W .any base t v)
    (hW : DataW.Whole enc Tryd.prog Tryd.f3.params.toList Rows.weightAdmitsSpec.vars false W args.toList ds gs before) (hL : laidMetH Tryd.prog Rows.weightAdmitsRow.laid W) :
    Calls Tryd.prog 3 args W fun e W' => ∃ v, e = .returned v ∧ Rows.weightAdmitsSpec.post enc Tryd.prog Tryd.f3 false true false false W args v W' := by
  have hW' := hW
  obtain ⟨p, q, hA0, hV, rfl, hfz, hnd⟩ := hW
  have hA : DataW.TrodAll enc Tryd.prog W 0 (fun _ => true) true Tryd.f3.params.toList args.toList ds p := hA0
  rw [Tryd.params3] at hA hval
  obtain ⟨v0, vs0, d0, ds0, p0, q0, hargs, rfl, rfl, h0, r0⟩ := trodAll_cons hA
  obtain ⟨rfl, rfl, rfl⟩ := trodAll_nil r0
  obtain rfl : args = #[v0] := by cases args; simp_all
  obtain ⟨rfl, rfl⟩ := trodVars_none hV
  obtain ⟨a0, rfl, rfl, rfl, w0⟩ := open_int Tryd.underlying22 (hval 0 22 v0 rfl rfl) h0
  clear hA0
  simp only [List.append_nil] at hW'
  refine (walk a0 w0 W (table hL)).mono fun e W' ⟨he, hg⟩ => ?_
  subst he
  exact ⟨_, rfl, post_of_same (pa := []) (pv := []) hW' (fun _ _ _ => (trodAll_cons_mk (shut_bool Tryd.underlying4 _) trodAll_mk0)) (fun sp _ => (trodAll_cons_mk (shut_int Tryd.underlying22 w0) trodAll_mk0)) (fun _ _ => rfl) rfl
    (hg.frame _) hg.2.1 (ok_one (by kernel_rfl) rfl (okWide_bool_mk Tryd.underlying4 _))⟩

theorem laid_met (os : Os) : laidMet Tryd.prog Rows.weightAdmitsRow.laid ((laidOver (World.holding Tryd.prog os ⟨#[], #[], []⟩)).forCall (fun _ _ => 0) ⟨#[], #[.int .u32 0], []⟩).memory :=
  laidMet_of_run' 8 (by kernel_rfl) (by kernel_rfl)
theorem reads (os : Os) {H : Type} (enc : TypeId × Value → H) : ∃ places, DataW.whole enc Tryd.prog ((laidOver (World.holding Tryd.prog os ⟨#[], #[], []⟩)).forCall (fun _ _ => 0) ⟨#[], #[.int .u32 0], []⟩).memory Tryd.f3.params.toList Rows.weightAdmitsSpec.vars false #[Value.int .u32 0].toList 8 = some ([.lit (.int .u32 0)], [], places) :=
  ⟨[], by kernel_rfl⟩

set_option maxRecDepth 100000 in
theorem lifted (os : Os) (started : os.Started) (H : Type) (enc : TypeId × Value → H) (F : Stop.Interp) :
    ReturnsInHanded {} Tryd.checked os 3 .any ((OpenSpec.ofChange Rows.weightAdmitsSpec).preRow enc Tryd.prog Tryd.f3 Rows.weightAdmitsRow.domain false Rows.weightAdmitsRow.laid) (((OpenSpec.ofChange Rows.weightAdmitsSpec).at F).post enc Tryd.prog Tryd.f3 false true false false) := by
  obtain ⟨places, hx⟩ := reads os enc
  refine returnsInHanded_of_row (C := Tryd.checked) (s := OpenSpec.ofChange Rows.weightAdmitsSpec) own started (by kernel_rfl) Tryd.func3
    (witness_row_at (enc := enc) (C := Tryd.checked) false (laidOver (World.holding Tryd.prog os ⟨#[], #[], []⟩)) #[.int .u32 0] rfl (by kernel_rfl) (by kernel_rfl) (by kernel_rfl)
      (OpenSpec.preRow_of_cond 8 hx (by kernel_rfl) (fun k hk => by cases hk) (by kernel_rfl) (laid_met os))) ?_
  intro W base args ds gs before hval hW _ _ _ hL _ _
  exact contract H enc W base args ds gs before hval hW hL

theorem said : Rows.WeightAdmitsSaid :=
  OpenClaim.holds_of_cond 3 Tryd.f3 rfl rfl rfl rfl rfl rfl rfl ⟨rfl, rfl, rfl, rfl, rfl⟩ rfl rfl rfl rfl rfl (by kernel_rfl) Tryd.func3 (by kernel_rfl)
    (of_decide_eq_true (by kernel_rfl)) (by unfold Func.isWrapper; first | (rw [if_pos (by decide +kernel)]; kernel_rfl) | (rw [if_neg (by decide +kernel)]; exact ⟨rfl, rfl⟩))
    (fun os started H enc _ F => by rw [OpenClaim.pre_eq_preRow]; exact lifted os started H enc F)

theorem plain (f : FuncId) (fn : Func) (hf : Tryd.pinned.checked.prog.funcNamed "bramble/bramblelaw01.WeightAdmits" = some f) (hfn : Tryd.pinned.checked.prog.funcs[f]? = some fn) :
    false = Tryd.pinned.checked.prog.looks [] ∧ ∀ (j : Nat) t, fn.params[j]? = some t → Tryd.pinned.checked.prog.wantsStandIn t = false := by
  obtain rfl : f = 3 := Option.some.inj ((show Tryd.prog.funcNamed "bramble/bramblelaw01.WeightAdmits" = some 3 by kernel_rfl).symm.trans hf) |>.symm
  obtain rfl : fn = Tryd.f3 := (Option.some.inj (Tryd.func3.symm.trans hfn)).symm
  refine ⟨by kernel_rfl, fun j t ht => ?_⟩
  rw [Tryd.params3] at ht
  obtain rfl : t = 22 := by simpa using Array.mem_of_getElem? ht
  exact (show Tryd.prog.wantsStandIn 22 = false by kernel_rfl)
end Go.Proofs.YtjeplokphkcloaaDoor.weightAdmits
namespace Go.Proofs.YtjeplokphkcloaaDoor
/-- THE CARD. -/
theorem weightAdmits_card : Rows.WeightAdmitsCardSaid :=
  Claim7.holds_tied_plain_at .later [] _ _ _ _ weightAdmits.said (fun _ h => by cases h) (by kernel_rfl) (fun _ h => by cases h) weightAdmits_row_tie rfl ⟨rfl, rfl⟩ (by kernel_rfl) rfl weightAdmits.plain (by kernel_rfl)
#print axioms weightAdmits_card
end Go.Proofs.YtjeplokphkcloaaDoor
