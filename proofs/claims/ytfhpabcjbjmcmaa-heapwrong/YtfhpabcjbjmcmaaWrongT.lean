/- HeapWrong: the marks are counted. -/
import Derived.Test.YtfhpabcjbjmcmaaWrongK
namespace Go.Proofs.Ytfhpabcjbjmcmaa
open Go.RowKit Go.Maps
theorem index_bool (fa : Array Value) (t : Nat) (x : Bool) (W : World) (ht : t < 16) (hx : fa[t]? = some (.bool x)) : (Instr.index 50 (.agg fa) (.int .i64 t)).run Try.prog W = .ok (.bool x) W := by
  have hs : (sizeOf 4).run Try.prog W = .ok 1 W := by kernel_rfl
  simp [Instr.index, asIntOf, run_underlying Try.underlying50, go_sem, hs, part, hx]
  intro h
  omega

variable {B : Nat} {w0 W : World} {lv : Value} {Inv : Nat → World → Prop} {A D : Nat → Prop} {p bi bg ob : Nat} {es : List EntI} {n c : Nat} {f : Nat → Bool} {gv : Nat → Value} {gl : Nat → List Int} {kd kk r : Int} {k i : Nat}

set_option maxHeartbeats 8000000 in
set_option maxRecDepth 100000 in
theorem hTail [Inhabited EntI] (a0 a1 a2 a3 a4 a5 a8 a9 a10 a11 a12 a13 a14 a15 a16 a17 a18 a19 a20 a21 a22 a23 a24 a25 a26 a27 a28 a29 a30 a31 a32 a33 a34 a35 a36 a37 a38 a39 a40 a41 a42 a43 a44 a45 a46 a47 a48 a49 a50 a51 a52 a53 a54 a55 a56 a57 a58 a59 a60 a61 a62 a63 a64 a65 a66 a67 a68 a69 a70 a71 a72 a73 a74 a75 a76 a77 a78 a79 a80 a81 a82 a83 a84 a85 a86 a87 a88 a89 a90 a91 a92 a93 a94 a95 a96 a97 a98 a99 a100 a101 a102 a103 a104 a105 a106 a107 a108 a109 a110 a111 a112 a113 a114 a115 a116 a117 a118 a119 a120 a121 a122 a123 a124 a125 a126 a127 a128 a129 a130 a131 a132 a133 a134 a135 a136 a137 a138 a139 a140 a141 a142 a143 : Value) (Q : Exit → Act → World → Prop) (HS : Hid (AfterH B w0 lv Inv D p bi bg ob i W)) (HQ : Hid (∀ (b15 b17 b132 b133 b134 b135 b136 b137 b138 b139 b140 b141 b142 b143 : Value) (wq : World), AfterH B w0 lv Inv D p bi bg ob i wq → Q .normal ⟨#[a0, a1, a2, a3, a4, a5, .pointer (some ⟨p, 0, none⟩), .pointer (some ⟨bi, 0, none⟩), a8, a9, a10, a11, a12, a13, a14, b15, a16, b17, a18, a19, a20, a21, a22, a23, a24, a25, a26, a27, a28, a29, a30, a31, a32, a33, a34, a35, a36, a37, a38, a39, a40, a41, a42, a43, a44, a45, a46, a47, a48, a49, a50, a51, a52, a53, a54, a55, a56, a57, a58, a59, a60, a61, a62, a63, a64, a65, a66, a67, a68, a69, a70, a71, a72, a73, a74, a75, a76, a77, a78, a79, a80, a81, a82, a83, a84, a85, a86, a87, a88, a89, a90, a91, a92, a93, a94, a95, a96, a97, a98, a99, a100, a101, a102, a103, a104, a105, a106, a107, a108, a109, a110, a111, a112, a113, a114, a115, a116, a117, a118, a119, a120, a121, a122, a123, a124, a125, a126, a127, a128, a129, a130, a131, b132, b133, b134, b135, b136, b137, b138, b139, b140, b141, b142, b143], []⟩ wq)) :
    Code.wp Try.prog ((Try.f7.body.bind (atRegion 33)).getD .skip) Q ⟨#[a0, a1, a2, a3, a4, a5, .pointer (some ⟨p, 0, none⟩), .pointer (some ⟨bi, 0, none⟩), a8, a9, a10, a11, a12, a13, a14, a15, a16, a17, a18, a19, a20, a21, a22, a23, a24, a25, a26, a27, a28, a29, a30, a31, a32, a33, a34, a35, a36, a37, a38, a39, a40, a41, a42, a43, a44, a45, a46, a47, a48, a49, a50, a51, a52, a53, a54, a55, a56, a57, a58, a59, a60, a61, a62, a63, a64, a65, a66, a67, a68, a69, a70, a71, a72, a73, a74, a75, a76, a77, a78, a79, a80, a81, a82, a83, a84, a85, a86, a87, a88, a89, a90, a91, a92, a93, a94, a95, a96, a97, a98, a99, a100, a101, a102, a103, a104, a105, a106, a107, a108, a109, a110, a111, a112, a113, a114, a115, a116, a117, a118, a119, a120, a121, a122, a123, a124, a125, a126, a127, a128, a129, a130, a131, a132, a133, a134, a135, a136, a137, a138, a139, a140, a141, a142, a143], []⟩ W := by
  conv => arg 2; whnf
  obtain ⟨es, n, c, f, gv, gl, hM, hF, x1, x2, x3⟩ := unhide HS
  have i0 := hM.ins.cell (k := 0) (by omega)
  have i1 := hM.ins.cell (k := 1) (by omega)
  have i2 := hM.ins.cell (k := 2) (by omega)
  have i3 := hM.ins.cell (k := 3) (by omega)
  have i4 := hM.ins.cell (k := 4) (by omega)
  have i5 := hM.ins.cell (k := 5) (by omega)
  have i6 := hM.ins.cell (k := 6) (by omega)
  have i7 := hM.ins.cell (k := 7) (by omega)
  have i8 := hM.ins.cell (k := 8) (by omega)
  have i9 := hM.ins.cell (k := 9) (by omega)
  have i10 := hM.ins.cell (k := 10) (by omega)
  have i11 := hM.ins.cell (k := 11) (by omega)
  have i12 := hM.ins.cell (k := 12) (by omega)
  have i13 := hM.ins.cell (k := 13) (by omega)
  have i14 := hM.ins.cell (k := 14) (by omega)
  have i15 := hM.ins.cell (k := 15) (by omega)

  have HM := hide hM
  have HF := hide hF
  clear hM hF x1 x2 x3
  go_upto_region 35 with fail
  have hidx : ∀ t, t < 16 → (#[.bool (f 0), .bool (f 1), .bool (f 2), .bool (f 3), .bool (f 4), .bool (f 5), .bool (f 6), .bool (f 7), .bool (f 8), .bool (f 9), .bool (f 10), .bool (f 11), .bool (f 12), .bool (f 13), .bool (f 14), .bool (f 15)] : Array Value)[t]? = some (.bool (f t)) := fun t ht => by
    match t, ht with
    | 0, _ => rfl
    | 1, _ => rfl
    | 2, _ => rfl
    | 3, _ => rfl
    | 4, _ => rfl
    | 5, _ => rfl
    | 6, _ => rfl
    | 7, _ => rfl
    | 8, _ => rfl
    | 9, _ => rfl
    | 10, _ => rfl
    | 11, _ => rfl
    | 12, _ => rfl
    | 13, _ => rfl
    | 14, _ => rfl
    | 15, _ => rfl
    | n + 16, h => exact absurd h (by omega)
  have hfs : (#[.bool (f 0), .bool (f 1), .bool (f 2), .bool (f 3), .bool (f 4), .bool (f 5), .bool (f 6), .bool (f 7), .bool (f 8), .bool (f 9), .bool (f 10), .bool (f 11), .bool (f 12), .bool (f 13), .bool (f 14), .bool (f 15)] : Array Value).size = 16 := rfl
  generalize (#[.bool (f 0), .bool (f 1), .bool (f 2), .bool (f 3), .bool (f 4), .bool (f 5), .bool (f 6), .bool (f 7), .bool (f 8), .bool (f 9), .bool (f 10), .bool (f 11), .bool (f 12), .bool (f 13), .bool (f 14), .bool (f 15)] : Array Value) = fa at hidx hfs ⊢
  have HIDX := hide hidx
  have HFS := hide hfs
  have HCT : Hid (∀ t, (List.range (t + 1)).countP f = (List.range t).countP f + (if f t then 1 else 0) ∧ (List.range t).countP f ≤ t) := fun t => ⟨by rw [List.range_succ, List.countP_append]; simp [List.countP_cons], by have := List.countP_le_length (p := f) (l := List.range t); simpa using this⟩
  clear hidx hfs i0 i1 i2 i3 i4 i5 i6 i7 i8 i9 i10 i11 i12 i13 i14 i15
  go_loop [15, 17, 133] (fun s15 s17 s133 => ∃ (t nn : Nat), t ≤ 16 ∧ nn ≤ t ∧ s133 = .int .i64 t ∧ s15 = .int .i64 nn ∧ Hid (nn = (List.range t).countP f)) (fun _ _ s133 => 16 - (intOf s133).toNat)
  case atStart => exact ⟨0, 0, by omega, by omega, rfl, rfl, rfl⟩
  case round =>
    obtain ⟨t, nn, ht, hnn, rfl, rfl, HN⟩ := hrel
    by_cases hlt : t < 16
    · have hltz : (t : Int) < 16 := by omega
      have hrun := fun W => index_bool fa t (f t) W hlt (unhide HIDX t hlt)
      have hct := unhide HCT t
      cases hft : f t with
      | true =>
        rw [hft] at hrun hct
        have HN2 : Hid (nn + 1 = (List.range (t + 1)).countP f) := by
          show nn + 1 = _
          rw [hct.1, unhide HN]
          simp
        clear hft hct
        go_wp2_with fail
        go_round
        case rel => exact ⟨t + 1, nn + 1, by omega, by omega, by go_num, by go_num, unhide HN2⟩
        case measure => simp [intOf]; omega
      | false =>
        rw [hft] at hrun hct
        have HN2 : Hid (nn = (List.range (t + 1)).countP f) := by
          show nn = _
          rw [hct.1, unhide HN]
          simp
        clear hft hct
        go_wp2_with fail
        go_round
        case rel => exact ⟨t + 1, nn, by omega, by omega, by go_num, rfl, unhide HN2⟩
        case measure => simp [intOf]; omega
    · obtain rfl : t = 16 := by omega
      have CL : Hid (Calls Try.prog 12 #[.pointer (some ⟨p, 0, none⟩)] W fun e w' => e = .returned (.int .i64 nn) ∧ w' = W) := by
        obtain ⟨m, v, hw, -⟩ := (unhide HM).heap
        have h1 := lenI W hw.at_
        rw [← fit_count (unhide HF) (unhide HM).once, ← unhide HN] at h1
        exact h1
      go_wp2_with fail
      refine (unhide CL).mono ?_
      rintro e w' ⟨rfl, rfl⟩
      go_wp2_with fail
      exact unhide HQ _ _ _ _ _ _ _ _ _ _ _ _ _ _ _ (unhide HS)
end Go.Proofs.Ytfhpabcjbjmcmaa
