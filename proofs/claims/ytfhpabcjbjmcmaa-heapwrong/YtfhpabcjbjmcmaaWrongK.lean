/- HeapWrong at its switch. -/
import Derived.Test.YtfhpabcjbjmcmaaWrongS
import Derived.Test.YtfhpabcjbjmcmaaTail
namespace Go.Proofs.Ytfhpabcjbjmcmaa
open Go.RowKit Go.Maps

/-- The code from the region n on, as it stands in a row of statements. -/
def atRegion (n : Nat) : Code → Option Code
  | .seq a b => match a with
    | .region id ops d => if id = n then some (.seq (.region id ops d) b) else atRegion n b
    | _ => match atRegion n a with
      | some c => some c
      | none => atRegion n b
  | .cond _ a b => match atRegion n a with
    | some c => some c
    | none => atRegion n b
  | .block _ c => atRegion n c
  | .loop c => atRegion n c
  | .scope c => atRegion n c
  | _ => none

structure SwH [Inhabited EntI] (B : Nat) (w0 : World) (lv : Value) (Inv : Nat → World → Prop) (A D : Nat → Prop) (p bi bg ob : Nat) (es : List EntI) (n c : Nat) (f : Nat → Bool) (gv : Nat → Value) (gl : Nat → List Int) (W : World) (kd kk r : Int) (k i : Nat) : Prop where
  mem : LMem B w0 lv Inv D p bi bg ob es n c f gv gl W
  fit : LFit es f gl
  env : Env lv Inv A D
  hA : ∀ k, A k → B ≤ k
  box : W.heap[ob]? = some (.cells #[.int .i64 kd, .int .i64 kk, .int .i64 r] 31 (0, 0))
  hk : k < 16
  hn : n ≤ i
  hc : c ≤ 60 * i
  hl : ∀ j, j < 16 → (gl j).length ≤ i
  hi : i < 400
  obs : ob ≠ bi ∧ ob ≠ bg

def AfterH [Inhabited EntI] (B : Nat) (w0 : World) (lv : Value) (Inv : Nat → World → Prop) (D : Nat → Prop) (p bi bg ob i : Nat) (wq : World) : Prop :=
  ∃ es n c f gv gl, LMem B w0 lv Inv D p bi bg ob es n c f gv gl wq ∧ LFit es f gl ∧ n ≤ i + 1 ∧ c ≤ 60 * (i + 1) ∧ ∀ j, j < 16 → (gl j).length ≤ i + 1

theorem key16 {k : Nat} (h : k < 16) : KeyOkI (k : Int) := by
  show (Lit.int .i64 (k : Int)).wf = true
  simp only [Lit.wf, Bool.and_eq_true, decide_eq_true_eq]
  have h1 : IntKind.min .i64 = -9223372036854775808 := by decide
  have h2 : IntKind.max .i64 = 9223372036854775807 := by decide
  omega

theorem box_cells {W W' : World} {ob : Nat} {a b c : Value} {t : TypeId} (h : W.heap[ob]? = some (.cells #[a, b, c] t (0, 0))) (he : W'.heap[ob]? = W.heap[ob]?) : W'.cell? ⟨ob, 2, none⟩ = some c := (cell_of_row _ _ 2 _ t (0, 0) (he.trans h)).trans rfl
section
variable [Inhabited EntI] {B : Nat} {w0 W : World} {lv : Value} {Inv : Nat → World → Prop} {A D : Nat → Prop} {p bi bg ob : Nat} {es : List EntI} {n c : Nat} {f : Nat → Bool} {gv : Nat → Value} {gl : Nat → List Int} {kd kk r : Int} {k i : Nat}
theorem SwH.len (h : SwH B w0 lv Inv A D p bi bg ob es n c f gv gl W kd kk r k i) : es.length ≤ 16 := fit_len h.fit h.mem.once
theorem SwH.b0 (h : SwH B w0 lv Inv A D p bi bg ob es n c f gv gl W kd kk r k i) : W.cell? ⟨ob, 0, none⟩ = some (.int .i64 kd) := (cell_of_row _ _ 0 _ 31 (0, 0) h.box).trans rfl
theorem SwH.b2 (h : SwH B w0 lv Inv A D p bi bg ob es n c f gv gl W kd kk r k i) : W.cell? ⟨ob, 2, none⟩ = some (.int .i64 r) := (cell_of_row _ _ 2 _ 31 (0, 0) h.box).trans rfl
theorem SwH.at_k (h : SwH B w0 lv Inv A D p bi bg ob es n c f gv gl W kd kk r k i) (hf : f k = true) : ∃ j, j < es.length ∧ (at_ es j).key = (k : Int) := by
  obtain ⟨x, hx, e⟩ := (h.fit.marks k h.hk).1 hf
  obtain ⟨j, hj, rfl⟩ := mem_at hx
  exact ⟨j, hj, e⟩
theorem SwH.no_k (h : SwH B w0 lv Inv A D p bi bg ob es n c f gv gl W kd kk r k i) (hf : f k = false) : ∀ x ∈ es, x.key ≠ (k : Int) := fun x hx e => by
  rw [(h.fit.marks k h.hk).2 ⟨x, hx, e⟩] at hf
  cases hf
theorem SwH.draw (h : SwH B w0 lv Inv A D p bi bg ob es n c f gv gl W kd kk r k i) (q : Nat) : SwH B w0 lv Inv A D p bi bg ob es n c f gv gl (W.drewN q) kd kk r k i :=
  ⟨h.mem.step h.env (below_drewN (Below.refl _ _) q), h.fit, h.env, h.hA, h.box, h.hk, h.hn, h.hc, h.hl, h.hi, h.obs⟩
theorem SwH.same (h : SwH B w0 lv Inv A D p bi bg ob es n c f gv gl W kd kk r k i) : AfterH B w0 lv Inv D p bi bg ob i W :=
  ⟨es, n, c, f, gv, gl, h.mem, h.fit, by have := h.hn; omega, by have := h.hc; omega, fun j hj => by have := h.hl j hj; omega⟩
end

variable {B : Nat} {w0 W : World} {lv : Value} {Inv : Nat → World → Prop} {A D : Nat → Prop} {p bi bg ob : Nat} {es : List EntI} {n c : Nat} {f : Nat → Bool} {gv : Nat → Value} {gl : Nat → List Int} {kd kk r : Int} {k i : Nat}

set_option maxHeartbeats 8000000 in
set_option maxRecDepth 100000 in
theorem hNone [Inhabited EntI] (a0 a1 a2 a3 a4 a5 a9 a12 a13 a14 a15 a16 a17 a18 a19 a20 a21 a22 a23 a24 a25 a26 a27 a28 a29 a30 a31 a32 a33 a34 a35 a36 a37 a38 a39 a40 a41 a42 a43 a44 a45 a46 a47 a48 a49 a50 a51 a52 a53 a54 a55 a56 a57 a58 a59 a60 a61 a62 a63 a64 a65 a66 a67 a68 a69 a70 a71 a72 a73 a74 a75 a76 a77 a78 a79 a80 a81 a82 a83 a84 a85 a86 a87 a88 a89 a90 a91 a92 a93 a94 a95 a96 a97 a98 a99 a100 a101 a102 a103 a104 a105 a106 a107 a108 a109 a110 a111 a112 a113 a114 a115 a116 a117 a118 a119 a120 a121 a122 a123 a124 a125 a126 a127 a128 a129 a130 a131 a132 a133 a134 a135 a136 a137 a138 a139 a140 a141 a142 a143 : Value) (Q : Exit → Act → World → Prop) (HS : Hid (SwH B w0 lv Inv A D p bi bg ob es n c f gv gl W kd kk r k i)) (HQ : Hid (∀ (b12 b13 b14 b43 b44 b45 b46 b47 b48 b49 b50 b51 b52 b53 b54 b55 b56 b57 b58 b59 b60 b61 b62 b63 b64 b65 b66 b67 b68 b69 b70 b71 b72 b73 b74 b75 b76 b77 b78 b79 b80 b81 b82 b83 b84 b85 b86 b87 b88 b89 b90 b91 b92 b93 b94 b95 b96 b97 b98 b99 b100 b101 b102 b103 b104 b105 b106 b107 b108 b109 b110 b111 b112 b113 b114 b115 b116 b117 b118 b119 b120 b121 b122 b123 b124 b125 b126 b127 b128 b129 b130 b131 : Value) (wq : World), AfterH B w0 lv Inv D p bi bg ob i wq → Q .normal ⟨#[a0, a1, a2, a3, a4, a5, .pointer (some ⟨p, 0, none⟩), .pointer (some ⟨bi, 0, none⟩), .pointer (some ⟨bg, 0, none⟩), a9, .pointer (some ⟨ob, 0, none⟩), .int .i64 (k : Int), b12, b13, b14, a15, a16, a17, a18, a19, a20, a21, a22, a23, a24, a25, a26, a27, a28, a29, a30, a31, a32, a33, a34, a35, a36, a37, a38, a39, a40, a41, a42, b43, b44, b45, b46, b47, b48, b49, b50, b51, b52, b53, b54, b55, b56, b57, b58, b59, b60, b61, b62, b63, b64, b65, b66, b67, b68, b69, b70, b71, b72, b73, b74, b75, b76, b77, b78, b79, b80, b81, b82, b83, b84, b85, b86, b87, b88, b89, b90, b91, b92, b93, b94, b95, b96, b97, b98, b99, b100, b101, b102, b103, b104, b105, b106, b107, b108, b109, b110, b111, b112, b113, b114, b115, b116, b117, b118, b119, b120, b121, b122, b123, b124, b125, b126, b127, b128, b129, b130, b131, a132, a133, a134, a135, a136, a137, a138, a139, a140, a141, a142, a143], []⟩ wq)) (hd : kd ≠ 1 ∧ kd ≠ 2 ∧ kd ≠ 3 ∧ kd ≠ 6) :
    Code.wp Try.prog ((Try.f7.body.bind (atRegion 12)).getD .skip) Q ⟨#[a0, a1, a2, a3, a4, a5, .pointer (some ⟨p, 0, none⟩), .pointer (some ⟨bi, 0, none⟩), .pointer (some ⟨bg, 0, none⟩), a9, .pointer (some ⟨ob, 0, none⟩), .int .i64 (k : Int), a12, a13, a14, a15, a16, a17, a18, a19, a20, a21, a22, a23, a24, a25, a26, a27, a28, a29, a30, a31, a32, a33, a34, a35, a36, a37, a38, a39, a40, a41, a42, a43, a44, a45, a46, a47, a48, a49, a50, a51, a52, a53, a54, a55, a56, a57, a58, a59, a60, a61, a62, a63, a64, a65, a66, a67, a68, a69, a70, a71, a72, a73, a74, a75, a76, a77, a78, a79, a80, a81, a82, a83, a84, a85, a86, a87, a88, a89, a90, a91, a92, a93, a94, a95, a96, a97, a98, a99, a100, a101, a102, a103, a104, a105, a106, a107, a108, a109, a110, a111, a112, a113, a114, a115, a116, a117, a118, a119, a120, a121, a122, a123, a124, a125, a126, a127, a128, a129, a130, a131, a132, a133, a134, a135, a136, a137, a138, a139, a140, a141, a142, a143], []⟩ W := by
  conv => arg 2; whnf
  obtain ⟨n1, n2, n3, n6⟩ := hd
  have q0 := (unhide HS).b0
  go_wp2_with fail
  exact unhide HQ _ _ _ _ _ _ _ _ _ _ _ _ _ _ _ _ _ _ _ _ _ _ _ _ _ _ _ _ _ _ _ _ _ _ _ _ _ _ _ _ _ _ _ _ _ _ _ _ _ _ _ _ _ _ _ _ _ _ _ _ _ _ _ _ _ _ _ _ _ _ _ _ _ _ _ _ _ _ _ _ _ _ _ _ _ _ _ _ _ _ _ _ _ (unhide HS).same

set_option maxHeartbeats 8000000 in
set_option maxRecDepth 100000 in
theorem hDrop [Inhabited EntI] (a0 a1 a2 a3 a4 a5 a9 a12 a13 a14 a15 a16 a17 a18 a19 a20 a21 a22 a23 a24 a25 a26 a27 a28 a29 a30 a31 a32 a33 a34 a35 a36 a37 a38 a39 a40 a41 a42 a43 a44 a45 a46 a47 a48 a49 a50 a51 a52 a53 a54 a55 a56 a57 a58 a59 a60 a61 a62 a63 a64 a65 a66 a67 a68 a69 a70 a71 a72 a73 a74 a75 a76 a77 a78 a79 a80 a81 a82 a83 a84 a85 a86 a87 a88 a89 a90 a91 a92 a93 a94 a95 a96 a97 a98 a99 a100 a101 a102 a103 a104 a105 a106 a107 a108 a109 a110 a111 a112 a113 a114 a115 a116 a117 a118 a119 a120 a121 a122 a123 a124 a125 a126 a127 a128 a129 a130 a131 a132 a133 a134 a135 a136 a137 a138 a139 a140 a141 a142 a143 : Value) (Q : Exit → Act → World → Prop) (HS : Hid (SwH B w0 lv Inv A D p bi bg ob es n c f gv gl W kd kk r k i)) (HQ : Hid (∀ (b12 b13 b14 b43 b44 b45 b46 b47 b48 b49 b50 b51 b52 b53 b54 b55 b56 b57 b58 b59 b60 b61 b62 b63 b64 b65 b66 b67 b68 b69 b70 b71 b72 b73 b74 b75 b76 b77 b78 b79 b80 b81 b82 b83 b84 b85 b86 b87 b88 b89 b90 b91 b92 b93 b94 b95 b96 b97 b98 b99 b100 b101 b102 b103 b104 b105 b106 b107 b108 b109 b110 b111 b112 b113 b114 b115 b116 b117 b118 b119 b120 b121 b122 b123 b124 b125 b126 b127 b128 b129 b130 b131 : Value) (wq : World), AfterH B w0 lv Inv D p bi bg ob i wq → Q .normal ⟨#[a0, a1, a2, a3, a4, a5, .pointer (some ⟨p, 0, none⟩), .pointer (some ⟨bi, 0, none⟩), .pointer (some ⟨bg, 0, none⟩), a9, .pointer (some ⟨ob, 0, none⟩), .int .i64 (k : Int), b12, b13, b14, a15, a16, a17, a18, a19, a20, a21, a22, a23, a24, a25, a26, a27, a28, a29, a30, a31, a32, a33, a34, a35, a36, a37, a38, a39, a40, a41, a42, b43, b44, b45, b46, b47, b48, b49, b50, b51, b52, b53, b54, b55, b56, b57, b58, b59, b60, b61, b62, b63, b64, b65, b66, b67, b68, b69, b70, b71, b72, b73, b74, b75, b76, b77, b78, b79, b80, b81, b82, b83, b84, b85, b86, b87, b88, b89, b90, b91, b92, b93, b94, b95, b96, b97, b98, b99, b100, b101, b102, b103, b104, b105, b106, b107, b108, b109, b110, b111, b112, b113, b114, b115, b116, b117, b118, b119, b120, b121, b122, b123, b124, b125, b126, b127, b128, b129, b130, b131, a132, a133, a134, a135, a136, a137, a138, a139, a140, a141, a142, a143], []⟩ wq)) (hd : kd = 6) :
    Code.wp Try.prog ((Try.f7.body.bind (atRegion 12)).getD .skip) Q ⟨#[a0, a1, a2, a3, a4, a5, .pointer (some ⟨p, 0, none⟩), .pointer (some ⟨bi, 0, none⟩), .pointer (some ⟨bg, 0, none⟩), a9, .pointer (some ⟨ob, 0, none⟩), .int .i64 (k : Int), a12, a13, a14, a15, a16, a17, a18, a19, a20, a21, a22, a23, a24, a25, a26, a27, a28, a29, a30, a31, a32, a33, a34, a35, a36, a37, a38, a39, a40, a41, a42, a43, a44, a45, a46, a47, a48, a49, a50, a51, a52, a53, a54, a55, a56, a57, a58, a59, a60, a61, a62, a63, a64, a65, a66, a67, a68, a69, a70, a71, a72, a73, a74, a75, a76, a77, a78, a79, a80, a81, a82, a83, a84, a85, a86, a87, a88, a89, a90, a91, a92, a93, a94, a95, a96, a97, a98, a99, a100, a101, a102, a103, a104, a105, a106, a107, a108, a109, a110, a111, a112, a113, a114, a115, a116, a117, a118, a119, a120, a121, a122, a123, a124, a125, a126, a127, a128, a129, a130, a131, a132, a133, a134, a135, a136, a137, a138, a139, a140, a141, a142, a143], []⟩ W := by
  conv => arg 2; whnf
  subst hd
  have q0 := (unhide HS).b0
  have hkz : (k : Int) < 16 := by have := (unhide HS).hk; omega
  have m0 := (unhide HS).mem.ins.cell (unhide HS).hk
  have mf := (unhide HS).mem.ins.frozen
  cases hf : f k with
  | false =>
    (try dsimp only at m0)
    rw [hf] at m0
    have CD : Hid (∀ q, Calls Try.prog 25 #[.pointer (some ⟨p, 0, none⟩), .int .i64 (k : Int)] (W.drewN q) fun e w' => e = .returned (.bool false) ∧ (w'.cell? ⟨bi, k, none⟩ = some (.bool false) ∧ ∀ o, w'.frozen? ⟨bi, o, none⟩ = false) ∧ Hid (AfterH B w0 lv Inv D p bi bg ob i (w'.setCell ⟨bi, k, none⟩ (.bool false)))) := fun q => by
      have h := (unhide HS).draw q
      obtain ⟨m, v, hw, -⟩ := h.mem.heap
      refine (dropOutI (k : Int) _ hw.at_ (key16 h.hk) (h.no_k hf)).mono ?_
      rintro e w' ⟨he, rfl⟩
      refine ⟨he, ⟨by have := h.mem.ins.cell h.hk; (try dsimp only at this); rw [hf] at this; exact this, h.mem.ins.frozen⟩, es, n, c, putN f k false, gv, gl, h.mem.mark h.env h.hk false, ?_, by have := h.hn; omega, by have := h.hc; omega, fun j hj => by have := h.hl j hj; omega⟩
      have e : putN f k false = f := by
        funext j
        by_cases e : j = k
        · rw [e, putN_self, hf]
        · rw [putN_other _ _ e]
      rw [e]
      exact h.fit
    go_upto_region 24 with fail
    go_region_held3 (fun u => u.cell? ⟨bi, k, none⟩ = some (.bool false)) (first | exact m0 | exact dd0 | (go_keep; done)) ((go_at_call 25; refine (unhide CD _).mono ?_; rintro e w' ⟨rfl, ⟨dd0, dd1⟩, hT⟩))
    go_wp2_with fail
    exact unhide HQ _ _ _ _ _ _ _ _ _ _ _ _ _ _ _ _ _ _ _ _ _ _ _ _ _ _ _ _ _ _ _ _ _ _ _ _ _ _ _ _ _ _ _ _ _ _ _ _ _ _ _ _ _ _ _ _ _ _ _ _ _ _ _ _ _ _ _ _ _ _ _ _ _ _ _ _ _ _ _ _ _ _ _ _ _ _ _ _ _ _ _ _ _ (unhide hT)
  | true =>
    (try dsimp only at m0)
    rw [hf] at m0
    have CD : Hid (∀ q, Calls Try.prog 25 #[.pointer (some ⟨p, 0, none⟩), .int .i64 (k : Int)] (W.drewN q) fun e w' => e = .returned (.bool true) ∧ (w'.cell? ⟨bi, k, none⟩ = some (.bool true) ∧ ∀ o, w'.frozen? ⟨bi, o, none⟩ = false) ∧ Hid (AfterH B w0 lv Inv D p bi bg ob i (w'.setCell ⟨bi, k, none⟩ (.bool false)))) := fun q => by
      have h := (unhide HS).draw q
      obtain ⟨m, v, hw, hfo⟩ := h.mem.heap
      obtain ⟨j, hj, ej⟩ := h.at_k hf
      have hlen := h.len
      have h1 := dropInW j _ hw h.env hj (by omega) (by have := h.hc; have := h.hi; omega)
      rw [ej] at h1
      refine h1.mono ?_
      rintro e w' ⟨he, hch⟩
      obtain ⟨es', c', g1, g2, g3, -⟩ := h.mem.called h.env hw hfo h.hA (unhide hch)
      refine ⟨he, ⟨by have := g3.ins.cell h.hk; (try dsimp only at this); rw [hf] at this; exact this, g3.ins.frozen⟩, es', n, c', putN f k false, gv, gl, g3.mark h.env h.hk false, fit_perm (fit_without h.fit) g1, by have := h.hn; omega, by have := h.hc; omega, fun j hj => by have := h.hl j hj; omega⟩
    go_upto_region 24 with fail
    go_region_held3 (fun u => u.cell? ⟨bi, k, none⟩ = some (.bool true)) (first | exact m0 | exact dd0 | (go_keep; done)) ((go_at_call 25; refine (unhide CD _).mono ?_; rintro e w' ⟨rfl, ⟨dd0, dd1⟩, hT⟩))
    go_wp2_with fail
    exact unhide HQ _ _ _ _ _ _ _ _ _ _ _ _ _ _ _ _ _ _ _ _ _ _ _ _ _ _ _ _ _ _ _ _ _ _ _ _ _ _ _ _ _ _ _ _ _ _ _ _ _ _ _ _ _ _ _ _ _ _ _ _ _ _ _ _ _ _ _ _ _ _ _ _ _ _ _ _ _ _ _ _ _ _ _ _ _ _ _ _ _ _ _ _ _ (unhide hT)
end Go.Proofs.Ytfhpabcjbjmcmaa
