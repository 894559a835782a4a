/- HeapWrong: its order, its switch. -/
import Derived.Test.YtfhpabcjbjmcmaaWrongPo
import Derived.Test.YtfhpabcjbjmcmaaWrongT
namespace Go.Proofs.Ytfhpabcjbjmcmaa
open Go.RowKit Go.Maps

/-- What the order leans on. -/
def InvW (ab sb : Nat) (a : Option Addr) (L cap : Nat) (z : Nat → Bool) (c : Nat) (W : World) : Prop :=
  W.heap[ab]? = some (.cells #[.int .i64 (c : Int)] 3 (0, 0)) ∧ W.heap[sb]? = some (.cells #[.slice a L cap] 49 (0, 0)) ∧ ∀ j, j < L → ∃ blk off, a = some ⟨blk, off, none⟩ ∧ W.cell? ⟨blk, off + j, none⟩ = some (.bool (z j))
def DW (ab sb : Nat) (a : Option Addr) (L : Nat) (k : Nat) : Prop := k = ab ∨ k = sb ∨ 0 < L ∧ ∃ off, a = some ⟨k, off, none⟩

theorem env_wrong (ab sb : Nat) (a : Option Addr) (L cap : Nat) (z : Nat → Bool) (hne : sb ≠ ab) (hblk : ∀ blk off, a = some ⟨blk, off, none⟩ → 0 < L → blk ≠ ab) :
    Env (.func (.func 24) #[] #[.pointer (some ⟨ab, 0, none⟩), .pointer (some ⟨sb, 0, none⟩)]) (InvW ab sb a L cap z) (fun k => k = ab) (DW ab sb a L) := by
  refine ⟨⟨24, _, rfl, enters_of Try.func24 (by kernel_rfl) rfl, fun x y c w hc hI => ?_⟩, fun c w w' hI hk => ?_, fun c w k hI hk => ?_, fun k hk => .inl hk⟩
  · obtain ⟨h1, h2, h3⟩ := hI
    have c0 : w.cell? ⟨ab, 0, none⟩ = some (.int .i64 (c : Int)) := (cell_of_row _ _ 0 _ 3 (0, 0) h1).trans rfl
    have cf : ∀ o, w.frozen? ⟨ab, o, none⟩ = false := fun o => frozen_of_row _ _ o _ _ h1
    have s0 : w.cell? ⟨sb, 0, none⟩ = some (.slice a L cap) := (cell_of_row _ _ 0 _ 49 (0, 0) h2).trans rfl
    have hpost : ∀ e w', (∃ r : Bool, e = Ending.returned (.bool r) ∧ ∃ q, w' = (w.setCell ⟨ab, 0, none⟩ (.int .i64 ((c : Int) + 1))).drewN q) → ∃ r : Bool, e = Ending.returned (.bool r) ∧ Hid (InvW ab sb a L cap z (c + 1) w' ∧ Turned (fun k => k = ab) w w') := by
      rintro e w' ⟨r, he, q, rfl⟩
      refine ⟨r, he, ⟨?_, ?_, fun j hj => ?_⟩, (turned_setCell (S := fun k => k = ab) w ⟨ab, 0, none⟩ _ (rfl : ab = ab)).drewN q⟩
      · show (w.setCell ⟨ab, 0, none⟩ (.int .i64 ((c : Int) + 1))).heap[ab]? = _
        rw [heap_setCell_same _ _ _ _ _ _ h1]
        rfl
      · show (w.setCell ⟨ab, 0, none⟩ (.int .i64 ((c : Int) + 1))).heap[sb]? = _
        rw [heap_setCell_other _ _ _ _ hne]
        exact h2
      · obtain ⟨blk, off, e1, e2⟩ := h3 j hj
        exact ⟨blk, off, e1, (World.cell?_setCell_other _ _ _ _ (fun e => hblk blk off e1 (by omega) (congrArg Addr.block e).symm)).trans e2⟩
    rcases Nat.eq_zero_or_pos L with h0 | h0
    · subst h0
      exact (wrongNone ab sb cap c a x y w hc c0 cf s0 hne).mono hpost
    · obtain ⟨blk, off, e1, e2⟩ := h3 ((c + 1) % L) (Nat.mod_lt _ h0)
      rw [e1] at s0
      exact (wrongSome ab sb blk off _ L cap c x y _ w hc h0 rfl c0 cf s0 e2 hne (hblk blk off e1 h0)).mono hpost
  · obtain ⟨h1, h2, h3⟩ := hI
    refine ⟨(hk ab (.inl rfl)).trans h1, (hk sb (.inr (.inl rfl))).trans h2, fun j hj => ?_⟩
    obtain ⟨blk, off, e1, e2⟩ := h3 j hj
    exact ⟨blk, off, e1, (cell_of_heap (x := ⟨blk, off + j, none⟩) (hk blk (.inr (.inr ⟨by omega, off, e1⟩)))).trans e2⟩
  · obtain ⟨h1, h2, h3⟩ := hI
    rcases hk with rfl | rfl | ⟨h0, off, e⟩
    · exact (Array.getElem?_eq_some_iff.1 h1).1
    · exact (Array.getElem?_eq_some_iff.1 h2).1
    · obtain ⟨blk, off2, e1, e2⟩ := h3 0 h0
      rw [e] at e1
      cases e1
      exact World.block_lt_of_cell? _ _ e2

variable {B : Nat} {w0 W : World} {lv : Value} {Inv : Nat → World → Prop} {A D : Nat → Prop} {p bi bg ob : Nat} {es : List EntI} {n c : Nat} {f : Nat → Bool} {gv : Nat → Value} {gl : Nat → List Int} {kd kk r : Int} {k i : Nat}

set_option maxHeartbeats 8000000 in
set_option maxRecDepth 100000 in
theorem hSwitch [Inhabited EntI] (a0 a1 a2 a3 a4 a5 a9 a12 a13 a14 a15 a16 a17 a18 a19 a20 a21 a22 a23 a24 a25 a26 a27 a28 a29 a30 a31 a32 a33 a34 a35 a36 a37 a38 a39 a40 a41 a42 a43 a44 a45 a46 a47 a48 a49 a50 a51 a52 a53 a54 a55 a56 a57 a58 a59 a60 a61 a62 a63 a64 a65 a66 a67 a68 a69 a70 a71 a72 a73 a74 a75 a76 a77 a78 a79 a80 a81 a82 a83 a84 a85 a86 a87 a88 a89 a90 a91 a92 a93 a94 a95 a96 a97 a98 a99 a100 a101 a102 a103 a104 a105 a106 a107 a108 a109 a110 a111 a112 a113 a114 a115 a116 a117 a118 a119 a120 a121 a122 a123 a124 a125 a126 a127 a128 a129 a130 a131 a132 a133 a134 a135 a136 a137 a138 a139 a140 a141 a142 a143 : Value) (Q : Exit → Act → World → Prop) (HS : Hid (SwH B w0 lv Inv A D p bi bg ob es n c f gv gl W kd kk r k i)) (HQ : Hid (∀ (b12 b13 b14 b43 b44 b45 b46 b47 b48 b49 b50 b51 b52 b53 b54 b55 b56 b57 b58 b59 b60 b61 b62 b63 b64 b65 b66 b67 b68 b69 b70 b71 b72 b73 b74 b75 b76 b77 b78 b79 b80 b81 b82 b83 b84 b85 b86 b87 b88 b89 b90 b91 b92 b93 b94 b95 b96 b97 b98 b99 b100 b101 b102 b103 b104 b105 b106 b107 b108 b109 b110 b111 b112 b113 b114 b115 b116 b117 b118 b119 b120 b121 b122 b123 b124 b125 b126 b127 b128 b129 b130 b131 : Value) (wq : World), AfterH B w0 lv Inv D p bi bg ob i wq → Q .normal ⟨#[a0, a1, a2, a3, a4, a5, .pointer (some ⟨p, 0, none⟩), .pointer (some ⟨bi, 0, none⟩), .pointer (some ⟨bg, 0, none⟩), a9, .pointer (some ⟨ob, 0, none⟩), .int .i64 (k : Int), b12, b13, b14, a15, a16, a17, a18, a19, a20, a21, a22, a23, a24, a25, a26, a27, a28, a29, a30, a31, a32, a33, a34, a35, a36, a37, a38, a39, a40, a41, a42, b43, b44, b45, b46, b47, b48, b49, b50, b51, b52, b53, b54, b55, b56, b57, b58, b59, b60, b61, b62, b63, b64, b65, b66, b67, b68, b69, b70, b71, b72, b73, b74, b75, b76, b77, b78, b79, b80, b81, b82, b83, b84, b85, b86, b87, b88, b89, b90, b91, b92, b93, b94, b95, b96, b97, b98, b99, b100, b101, b102, b103, b104, b105, b106, b107, b108, b109, b110, b111, b112, b113, b114, b115, b116, b117, b118, b119, b120, b121, b122, b123, b124, b125, b126, b127, b128, b129, b130, b131, a132, a133, a134, a135, a136, a137, a138, a139, a140, a141, a142, a143], []⟩ wq))  :
    Code.wp Try.prog ((Try.f7.body.bind (atRegion 12)).getD .skip) Q ⟨#[a0, a1, a2, a3, a4, a5, .pointer (some ⟨p, 0, none⟩), .pointer (some ⟨bi, 0, none⟩), .pointer (some ⟨bg, 0, none⟩), a9, .pointer (some ⟨ob, 0, none⟩), .int .i64 (k : Int), a12, a13, a14, a15, a16, a17, a18, a19, a20, a21, a22, a23, a24, a25, a26, a27, a28, a29, a30, a31, a32, a33, a34, a35, a36, a37, a38, a39, a40, a41, a42, a43, a44, a45, a46, a47, a48, a49, a50, a51, a52, a53, a54, a55, a56, a57, a58, a59, a60, a61, a62, a63, a64, a65, a66, a67, a68, a69, a70, a71, a72, a73, a74, a75, a76, a77, a78, a79, a80, a81, a82, a83, a84, a85, a86, a87, a88, a89, a90, a91, a92, a93, a94, a95, a96, a97, a98, a99, a100, a101, a102, a103, a104, a105, a106, a107, a108, a109, a110, a111, a112, a113, a114, a115, a116, a117, a118, a119, a120, a121, a122, a123, a124, a125, a126, a127, a128, a129, a130, a131, a132, a133, a134, a135, a136, a137, a138, a139, a140, a141, a142, a143], []⟩ W := by

  by_cases h1 : kd = 1
  · exact hPush a0 a1 a2 a3 a4 a5 a9 a12 a13 a14 a15 a16 a17 a18 a19 a20 a21 a22 a23 a24 a25 a26 a27 a28 a29 a30 a31 a32 a33 a34 a35 a36 a37 a38 a39 a40 a41 a42 a43 a44 a45 a46 a47 a48 a49 a50 a51 a52 a53 a54 a55 a56 a57 a58 a59 a60 a61 a62 a63 a64 a65 a66 a67 a68 a69 a70 a71 a72 a73 a74 a75 a76 a77 a78 a79 a80 a81 a82 a83 a84 a85 a86 a87 a88 a89 a90 a91 a92 a93 a94 a95 a96 a97 a98 a99 a100 a101 a102 a103 a104 a105 a106 a107 a108 a109 a110 a111 a112 a113 a114 a115 a116 a117 a118 a119 a120 a121 a122 a123 a124 a125 a126 a127 a128 a129 a130 a131 a132 a133 a134 a135 a136 a137 a138 a139 a140 a141 a142 a143 Q HS HQ h1
  by_cases h2 : kd = 2
  · exact hLower a0 a1 a2 a3 a4 a5 a9 a12 a13 a14 a15 a16 a17 a18 a19 a20 a21 a22 a23 a24 a25 a26 a27 a28 a29 a30 a31 a32 a33 a34 a35 a36 a37 a38 a39 a40 a41 a42 a43 a44 a45 a46 a47 a48 a49 a50 a51 a52 a53 a54 a55 a56 a57 a58 a59 a60 a61 a62 a63 a64 a65 a66 a67 a68 a69 a70 a71 a72 a73 a74 a75 a76 a77 a78 a79 a80 a81 a82 a83 a84 a85 a86 a87 a88 a89 a90 a91 a92 a93 a94 a95 a96 a97 a98 a99 a100 a101 a102 a103 a104 a105 a106 a107 a108 a109 a110 a111 a112 a113 a114 a115 a116 a117 a118 a119 a120 a121 a122 a123 a124 a125 a126 a127 a128 a129 a130 a131 a132 a133 a134 a135 a136 a137 a138 a139 a140 a141 a142 a143 Q HS HQ h2
  by_cases h3 : kd = 3
  · exact hPop a0 a1 a2 a3 a4 a5 a9 a12 a13 a14 a15 a16 a17 a18 a19 a20 a21 a22 a23 a24 a25 a26 a27 a28 a29 a30 a31 a32 a33 a34 a35 a36 a37 a38 a39 a40 a41 a42 a43 a44 a45 a46 a47 a48 a49 a50 a51 a52 a53 a54 a55 a56 a57 a58 a59 a60 a61 a62 a63 a64 a65 a66 a67 a68 a69 a70 a71 a72 a73 a74 a75 a76 a77 a78 a79 a80 a81 a82 a83 a84 a85 a86 a87 a88 a89 a90 a91 a92 a93 a94 a95 a96 a97 a98 a99 a100 a101 a102 a103 a104 a105 a106 a107 a108 a109 a110 a111 a112 a113 a114 a115 a116 a117 a118 a119 a120 a121 a122 a123 a124 a125 a126 a127 a128 a129 a130 a131 a132 a133 a134 a135 a136 a137 a138 a139 a140 a141 a142 a143 Q HS HQ h3
  by_cases h6 : kd = 6
  · exact hDrop a0 a1 a2 a3 a4 a5 a9 a12 a13 a14 a15 a16 a17 a18 a19 a20 a21 a22 a23 a24 a25 a26 a27 a28 a29 a30 a31 a32 a33 a34 a35 a36 a37 a38 a39 a40 a41 a42 a43 a44 a45 a46 a47 a48 a49 a50 a51 a52 a53 a54 a55 a56 a57 a58 a59 a60 a61 a62 a63 a64 a65 a66 a67 a68 a69 a70 a71 a72 a73 a74 a75 a76 a77 a78 a79 a80 a81 a82 a83 a84 a85 a86 a87 a88 a89 a90 a91 a92 a93 a94 a95 a96 a97 a98 a99 a100 a101 a102 a103 a104 a105 a106 a107 a108 a109 a110 a111 a112 a113 a114 a115 a116 a117 a118 a119 a120 a121 a122 a123 a124 a125 a126 a127 a128 a129 a130 a131 a132 a133 a134 a135 a136 a137 a138 a139 a140 a141 a142 a143 Q HS HQ h6
  exact hNone a0 a1 a2 a3 a4 a5 a9 a12 a13 a14 a15 a16 a17 a18 a19 a20 a21 a22 a23 a24 a25 a26 a27 a28 a29 a30 a31 a32 a33 a34 a35 a36 a37 a38 a39 a40 a41 a42 a43 a44 a45 a46 a47 a48 a49 a50 a51 a52 a53 a54 a55 a56 a57 a58 a59 a60 a61 a62 a63 a64 a65 a66 a67 a68 a69 a70 a71 a72 a73 a74 a75 a76 a77 a78 a79 a80 a81 a82 a83 a84 a85 a86 a87 a88 a89 a90 a91 a92 a93 a94 a95 a96 a97 a98 a99 a100 a101 a102 a103 a104 a105 a106 a107 a108 a109 a110 a111 a112 a113 a114 a115 a116 a117 a118 a119 a120 a121 a122 a123 a124 a125 a126 a127 a128 a129 a130 a131 a132 a133 a134 a135 a136 a137 a138 a139 a140 a141 a142 a143 Q HS HQ ⟨h1, h2, h3, h6⟩
end Go.Proofs.Ytfhpabcjbjmcmaa
