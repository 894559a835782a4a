/- HeapWrong's Push. -/
import Derived.Test.YtfhpabcjbjmcmaaWrongK
namespace Go.Proofs.Ytfhpabcjbjmcmaa
open Go.RowKit Go.Maps

theorem cell_alloc {W : World} {a : Addr} {v : Value} (o : Obj) (h : W.cell? a = some v) : (W.alloc o).cell? a = some v :=
  (((Below.refl W.heap.size W).alloc (Nat.le_refl _) o).cell (World.block_lt_of_cell? _ _ h)).trans h
theorem frozen_alloc {W : World} {a : Addr} (o : Obj) (hl : a.block < W.heap.size) (h : W.frozen? a = false) : (W.alloc o).frozen? a = false :=
  (((Below.refl W.heap.size W).alloc (Nat.le_refl _) o).frozen hl).trans h

/-- A mark and a list of one. -/
theorem LMem.pushed [Inhabited EntI] {B : Nat} {w0 U : World} {lv : Value} {Inv : Nat → World → Prop} {A D : Nat → Prop} {p bi bg ob n c : Nat} {es : List EntI} {f : Nat → Bool} {gv : Nat → Value} {gl : Nat → List Int} {k : Nat} (h : LMem B w0 lv Inv D p bi bg ob es n c f gv gl U) (he : Env lv Inv A D) (hk : k < 16) (r : Int) :
    LMem B w0 lv Inv D p bi bg ob es n c (putN f k true) (putN gv k (.slice (some ⟨U.heap.size, 0, none⟩) 1 1)) (putN gl k [r]) (((U.alloc (.cells #[.int .i64 r] 3)).setCell ⟨bi, k, none⟩ (.bool true)).setCell ⟨bg, k, none⟩ (.slice (some ⟨U.heap.size, 0, none⟩) 1 1)) := by
  have h1 := h.step he ((Below.refl _ _).alloc (Nat.le_refl _) (.cells #[.int .i64 r] 3))
  have h2 := h1.mark he hk true
  have hbi := h.ins.lt
  have hbg := h.gave.lt
  have hrm := h.room
  have hnew : ((U.alloc (.cells #[.int .i64 r] 3)).setCell ⟨bi, k, none⟩ (.bool true)).heap[U.heap.size]? = some (.cells #[.int .i64 r] 3 (0, 0)) := by
    rw [heap_setCell_other _ _ _ _ (by show U.heap.size ≠ bi; omega)]
    exact heap_alloc_new U _
  refine h2.list he hk (l := [r]) ⟨by simp [nums], .inr ⟨U.heap.size, 1, #[.int .i64 r], rfl, hrm, hnew, Nat.le_refl _, by unfold maxLen; omega, rfl, rfl⟩⟩ (fun b hb => ?_) (fun m v hw hf b hb => ?_)
  · have : b = U.heap.size := by simpa [Value.ownBlock, eq_comm] using hb
    subst this
    refine ⟨by omega, by omega, ⟨by have := h.hob.2; omega, fun hd => ?_⟩, fun j hj _ e => ?_⟩
    · obtain ⟨m, v, hw, -⟩ := h.heap
      have := he.lt _ _ _ hw.inv hd
      omega
    · have := ((h.rows j hj).lt _ e).2
      omega
  · have : b = U.heap.size := by simpa [Value.ownBlock, eq_comm] using hb
    subst this
    intro hfo
    obtain ⟨m', v', hw', hf'⟩ := h.heap
    have hd : m' = m ∧ v' = v := by
      have b1 := hw'.at_.box
      have b2 := hw.at_.box
      have hpl := hw'.at_.lt (k := p) (.inl rfl)
      have hpb := (hf' p (.inl rfl)).2.1
      rw [heap_setCell_other _ _ _ _ hpb, ((Below.refl U.heap.size U).alloc (Nat.le_refl _) _).block p hpl, b1] at b2
      simp only [Option.some.injEq, Obj.cells.injEq, Array.mk.injEq, List.cons.injEq, Value.map.injEq, and_true, true_and] at b2
      exact ⟨b2.2, b2.1⟩
    obtain ⟨rfl, rfl⟩ := hd
    have := hw'.at_.lt hfo
    omega

/-- The same, the mark first. -/
theorem LMem.pushed2 [Inhabited EntI] {B : Nat} {w0 U : World} {lv : Value} {Inv : Nat → World → Prop} {A D : Nat → Prop} {p bi bg ob n c : Nat} {es : List EntI} {f : Nat → Bool} {gv : Nat → Value} {gl : Nat → List Int} {k : Nat} (h : LMem B w0 lv Inv D p bi bg ob es n c f gv gl U) (he : Env lv Inv A D) (hk : k < 16) (r : Int) :
    LMem B w0 lv Inv D p bi bg ob es n c (putN f k true) (putN gv k (.slice (some ⟨U.heap.size, 0, none⟩) 1 1)) (putN gl k [r]) (((U.setCell ⟨bi, k, none⟩ (.bool true)).alloc (.cells #[.int .i64 r] 3)).setCell ⟨bg, k, none⟩ (.slice (some ⟨U.heap.size, 0, none⟩) 1 1)) := by
  have h1 := h.mark he hk true
  have h2 := h1.step he ((Below.refl _ _).alloc (Nat.le_refl _) (.cells #[.int .i64 r] 3))
  have hsz : (U.setCell ⟨bi, k, none⟩ (.bool true)).heap.size = U.heap.size := by simp
  have hbi := h.ins.lt
  have hbg := h.gave.lt
  have hrm := h.room
  have hnew : ((U.setCell ⟨bi, k, none⟩ (.bool true)).alloc (.cells #[.int .i64 r] 3)).heap[U.heap.size]? = some (.cells #[.int .i64 r] 3 (0, 0)) := by
    have := heap_alloc_new (U.setCell ⟨bi, k, none⟩ (.bool true)) (.cells #[.int .i64 r] 3)
    rwa [hsz] at this
  refine h2.list he hk (l := [r]) ⟨by simp [nums], .inr ⟨U.heap.size, 1, #[.int .i64 r], rfl, hrm, hnew, Nat.le_refl _, by unfold maxLen; omega, rfl, rfl⟩⟩ (fun b hb => ?_) (fun m v hw hf b hb => ?_)
  · have : b = U.heap.size := by simpa [Value.ownBlock, eq_comm] using hb
    subst this
    refine ⟨by omega, by omega, ⟨by have := h.hob.2; omega, fun hd => ?_⟩, fun j hj _ e => ?_⟩
    · obtain ⟨m, v, hw, -⟩ := h.heap
      have := he.lt _ _ _ hw.inv hd
      omega
    · have := ((h.rows j hj).lt _ e).2
      omega
  · have : b = U.heap.size := by simpa [Value.ownBlock, eq_comm] using hb
    subst this
    intro hfo
    obtain ⟨m', v', hw', hf'⟩ := h.heap
    have hd : m' = m ∧ v' = v := by
      have b1 := hw'.at_.box
      have b2 := hw.at_.box
      have hpl := hw'.at_.lt (k := p) (.inl rfl)
      have hpb := (hf' p (.inl rfl)).2.1
      rw [((Below.refl _ (U.setCell ⟨bi, k, none⟩ (.bool true))).alloc (Nat.le_refl _) _).block p (by rw [hsz]; exact hpl), heap_setCell_other _ _ _ _ hpb, b1] at b2
      simp only [Option.some.injEq, Obj.cells.injEq, Array.mk.injEq, List.cons.injEq, Value.map.injEq, and_true, true_and] at b2
      exact ⟨b2.2, b2.1⟩
    obtain ⟨rfl, rfl⟩ := hd
    have := hw'.at_.lt hfo
    omega

variable {B : Nat} {w0 W : World} {lv : Value} {Inv : Nat → World → Prop} {A D : Nat → Prop} {p bi bg ob : Nat} {es : List EntI} {n c : Nat} {f : Nat → Bool} {gv : Nat → Value} {gl : Nat → List Int} {kd kk r : Int} {k i : Nat}

set_option maxHeartbeats 8000000 in
set_option maxRecDepth 100000 in
theorem hPush [Inhabited EntI] (a0 a1 a2 a3 a4 a5 a9 a12 a13 a14 a15 a16 a17 a18 a19 a20 a21 a22 a23 a24 a25 a26 a27 a28 a29 a30 a31 a32 a33 a34 a35 a36 a37 a38 a39 a40 a41 a42 a43 a44 a45 a46 a47 a48 a49 a50 a51 a52 a53 a54 a55 a56 a57 a58 a59 a60 a61 a62 a63 a64 a65 a66 a67 a68 a69 a70 a71 a72 a73 a74 a75 a76 a77 a78 a79 a80 a81 a82 a83 a84 a85 a86 a87 a88 a89 a90 a91 a92 a93 a94 a95 a96 a97 a98 a99 a100 a101 a102 a103 a104 a105 a106 a107 a108 a109 a110 a111 a112 a113 a114 a115 a116 a117 a118 a119 a120 a121 a122 a123 a124 a125 a126 a127 a128 a129 a130 a131 a132 a133 a134 a135 a136 a137 a138 a139 a140 a141 a142 a143 : Value) (Q : Exit → Act → World → Prop) (HS : Hid (SwH B w0 lv Inv A D p bi bg ob es n c f gv gl W kd kk r k i)) (HQ : Hid (∀ (b12 b13 b14 b43 b44 b45 b46 b47 b48 b49 b50 b51 b52 b53 b54 b55 b56 b57 b58 b59 b60 b61 b62 b63 b64 b65 b66 b67 b68 b69 b70 b71 b72 b73 b74 b75 b76 b77 b78 b79 b80 b81 b82 b83 b84 b85 b86 b87 b88 b89 b90 b91 b92 b93 b94 b95 b96 b97 b98 b99 b100 b101 b102 b103 b104 b105 b106 b107 b108 b109 b110 b111 b112 b113 b114 b115 b116 b117 b118 b119 b120 b121 b122 b123 b124 b125 b126 b127 b128 b129 b130 b131 : Value) (wq : World), AfterH B w0 lv Inv D p bi bg ob i wq → Q .normal ⟨#[a0, a1, a2, a3, a4, a5, .pointer (some ⟨p, 0, none⟩), .pointer (some ⟨bi, 0, none⟩), .pointer (some ⟨bg, 0, none⟩), a9, .pointer (some ⟨ob, 0, none⟩), .int .i64 (k : Int), b12, b13, b14, a15, a16, a17, a18, a19, a20, a21, a22, a23, a24, a25, a26, a27, a28, a29, a30, a31, a32, a33, a34, a35, a36, a37, a38, a39, a40, a41, a42, b43, b44, b45, b46, b47, b48, b49, b50, b51, b52, b53, b54, b55, b56, b57, b58, b59, b60, b61, b62, b63, b64, b65, b66, b67, b68, b69, b70, b71, b72, b73, b74, b75, b76, b77, b78, b79, b80, b81, b82, b83, b84, b85, b86, b87, b88, b89, b90, b91, b92, b93, b94, b95, b96, b97, b98, b99, b100, b101, b102, b103, b104, b105, b106, b107, b108, b109, b110, b111, b112, b113, b114, b115, b116, b117, b118, b119, b120, b121, b122, b123, b124, b125, b126, b127, b128, b129, b130, b131, a132, a133, a134, a135, a136, a137, a138, a139, a140, a141, a142, a143], []⟩ wq)) (hd : kd = 1) :
    Code.wp Try.prog ((Try.f7.body.bind (atRegion 12)).getD .skip) Q ⟨#[a0, a1, a2, a3, a4, a5, .pointer (some ⟨p, 0, none⟩), .pointer (some ⟨bi, 0, none⟩), .pointer (some ⟨bg, 0, none⟩), a9, .pointer (some ⟨ob, 0, none⟩), .int .i64 (k : Int), a12, a13, a14, a15, a16, a17, a18, a19, a20, a21, a22, a23, a24, a25, a26, a27, a28, a29, a30, a31, a32, a33, a34, a35, a36, a37, a38, a39, a40, a41, a42, a43, a44, a45, a46, a47, a48, a49, a50, a51, a52, a53, a54, a55, a56, a57, a58, a59, a60, a61, a62, a63, a64, a65, a66, a67, a68, a69, a70, a71, a72, a73, a74, a75, a76, a77, a78, a79, a80, a81, a82, a83, a84, a85, a86, a87, a88, a89, a90, a91, a92, a93, a94, a95, a96, a97, a98, a99, a100, a101, a102, a103, a104, a105, a106, a107, a108, a109, a110, a111, a112, a113, a114, a115, a116, a117, a118, a119, a120, a121, a122, a123, a124, a125, a126, a127, a128, a129, a130, a131, a132, a133, a134, a135, a136, a137, a138, a139, a140, a141, a142, a143], []⟩ W := by
  conv => arg 2; whnf
  subst hd
  have q0 := (unhide HS).b0
  have q2 := (unhide HS).b2
  have hkz : (k : Int) < 16 := by have := (unhide HS).hk; omega
  have m0 := (unhide HS).mem.ins.cell (unhide HS).hk
  cases hf : f k with
  | true =>
    (try dsimp only at m0)
    rw [hf] at m0
    have CP : Hid (∀ q, Calls Try.prog 14 #[.pointer (some ⟨p, 0, none⟩), .int .i64 (k : Int), .int .i64 r] (W.drewN q) fun e w' => e = .returned (.bool false) ∧ (w'.cell? ⟨ob, 2, none⟩ = some (.int .i64 r) ∧ w'.cell? ⟨bi, k, none⟩ = some (.bool true)) ∧ Hid (AfterH B w0 lv Inv D p bi bg ob i w')) := fun q => by
      have h := (unhide HS).draw q
      obtain ⟨m, v, hw, -⟩ := h.mem.heap
      obtain ⟨x, hx, ex⟩ := (h.fit.marks k h.hk).1 hf
      refine (pushInI (k : Int) r _ hw.at_ (key16 h.hk) ⟨x, hx, ex⟩).mono ?_
      rintro e w' ⟨he, rfl⟩
      exact ⟨he, ⟨h.b2, by have := h.mem.ins.cell h.hk; (try dsimp only at this); rw [hf] at this; exact this⟩, h.same⟩
    go_upto_region 14 with fail
    go_region_held3 (fun u => u.cell? ⟨ob, 2, none⟩ = some (.int .i64 r) ∧ u.cell? ⟨bi, k, none⟩ = some (.bool true)) (first | exact ⟨q2, m0⟩ | exact ⟨dd0, dd1⟩ | (go_keep; done)) ((go_at_call 14; refine (unhide CP _).mono ?_; rintro e w' ⟨rfl, ⟨dd0, dd1⟩, hT⟩))
    go_wp2_with fail
    exact unhide HQ _ _ _ _ _ _ _ _ _ _ _ _ _ _ _ _ _ _ _ _ _ _ _ _ _ _ _ _ _ _ _ _ _ _ _ _ _ _ _ _ _ _ _ _ _ _ _ _ _ _ _ _ _ _ _ _ _ _ _ _ _ _ _ _ _ _ _ _ _ _ _ _ _ _ _ _ _ _ _ _ _ _ _ _ _ _ _ _ _ _ _ _ _ (unhide hT)
  | false =>
    (try dsimp only at m0)
    rw [hf] at m0
    have CP : Hid (∀ q, Calls Try.prog 14 #[.pointer (some ⟨p, 0, none⟩), .int .i64 (k : Int), .int .i64 r] (W.drewN q) fun e w' => e = .returned (.bool true) ∧ (w'.cell? ⟨ob, 2, none⟩ = some (.int .i64 r) ∧ w'.cell? ⟨bi, k, none⟩ = some (.bool false)) ∧ Hid (∃ es' c', es'.Perm (es ++ [⟨(k : Int), r, n⟩]) ∧ c' ≤ c + 17 ∧ LMem B w0 lv Inv D p bi bg ob es' (n + 1) c' f gv gl w')) := fun q => by
      have h := (unhide HS).draw q
      obtain ⟨m, v, hw, hfo⟩ := h.mem.heap
      have hlen := h.len
      have hhn := h.hn
      have hhi := h.hi
      have hhc := h.hc
      refine (pushNewW (k : Int) r _ hw h.env (key16 h.hk) (h.no_k hf) (by omega) (by omega) (by omega)).mono ?_
      rintro e w' ⟨he, hch⟩
      obtain ⟨es', c', g1, g2, g3, g4⟩ := h.mem.called h.env hw hfo h.hA (unhide hch)
      exact ⟨he, ⟨box_cells h.box g4, by have := g3.ins.cell h.hk; (try dsimp only at this); rw [hf] at this; exact this⟩, es', c', g1, by omega, g3⟩
    go_upto_region 14 with fail
    go_region_held3 (fun u => u.cell? ⟨ob, 2, none⟩ = some (.int .i64 r) ∧ u.cell? ⟨bi, k, none⟩ = some (.bool false)) (first | exact ⟨q2, m0⟩ | exact ⟨dd0, dd1⟩ | (go_keep; done)) ((go_at_call 14; refine (unhide CP _).mono ?_; rintro e w' ⟨rfl, ⟨dd0, dd1⟩, hT⟩))
    obtain ⟨es', c', g1, g2, g3⟩ := unhide hT
    have gb := g3.gave.cell (unhide HS).hk
    obtain ⟨ao, lo, co, hgv⟩ : ∃ (ao : Option Addr) (lo co : Nat), gv k = .slice ao lo co := by
      rcases (g3.rows k (unhide HS).hk).2 with ⟨e, -⟩ | ⟨g, cap, cur, e, -⟩
      · exact ⟨_, _, _, e⟩
      · exact ⟨_, _, _, e⟩
    rw [hgv] at gb
    clear hgv
    have fi := g3.ins.frozen
    have fg := g3.gave.frozen
    have n1 : ¬ (bi = w'.heap.size) := by have := g3.ins.lt; omega
    have n2 : ¬ (bg = w'.heap.size) := by have := g3.gave.lt; omega
    have n3 : ¬ (ob = w'.heap.size) := by have := g3.hob.2; omega
    have n4 : ¬ (bi = bg) := g3.ne
    have n5 : ¬ (ob = bi) := (unhide HS).obs.1
    have n6 : ¬ (ob = bg) := (unhide HS).obs.2
    have n1' : ¬ (w'.heap.size = bi) := fun e => n1 e.symm
    have n2' : ¬ (w'.heap.size = bg) := fun e => n2 e.symm
    have n4' : ¬ (bg = bi) := fun e => n4 e.symm
    have n5' : ¬ (bi = ob) := fun e => n5 e.symm
    have n6' : ¬ (bg = ob) := fun e => n6 e.symm
    have a1 : (w'.alloc (.cells #[.int .i64 r] 3)).drew.cell? ⟨bi, k, none⟩ = some (.bool false) := cell_alloc (W := w') _ dd1
    have a2 : (w'.alloc (.cells #[.int .i64 r] 3)).drew.cell? ⟨bg, k, none⟩ = some (.slice ao lo co) := cell_alloc (W := w') _ gb
    have a3 : (w'.alloc (.cells #[.int .i64 r] 3)).drew.cell? ⟨ob, 2, none⟩ = some (.int .i64 r) := cell_alloc (W := w') _ dd0
    have a4 : ∀ o, (w'.alloc (.cells #[.int .i64 r] 3)).drew.frozen? ⟨bi, o, none⟩ = false := fun o => frozen_alloc (W := w') _ g3.ins.lt (fi o)
    have a5 : ∀ o, (w'.alloc (.cells #[.int .i64 r] 3)).drew.frozen? ⟨bg, o, none⟩ = false := fun o => frozen_alloc (W := w') _ g3.gave.lt (fg o)
    have c1 : (w'.alloc (.cells #[.int .i64 r] 3)).cell? ⟨bi, k, none⟩ = some (.bool false) := a1
    have c2 : (w'.alloc (.cells #[.int .i64 r] 3)).cell? ⟨bg, k, none⟩ = some (.slice ao lo co) := a2
    have c3 : (w'.alloc (.cells #[.int .i64 r] 3)).cell? ⟨ob, 2, none⟩ = some (.int .i64 r) := a3
    have c4 : ∀ o, (w'.alloc (.cells #[.int .i64 r] 3)).frozen? ⟨bi, o, none⟩ = false := a4
    have c5 : ∀ o, (w'.alloc (.cells #[.int .i64 r] 3)).frozen? ⟨bg, o, none⟩ = false := a5
    have v1 : ((w'.alloc (.cells #[.int .i64 r] 3)).drew.setCell ⟨bi, k, none⟩ (.bool true)).cell? ⟨bg, k, none⟩ = some (.slice ao lo co) := (World.cell?_setCell_other _ _ _ _ (by simp)).trans a2
    have v2 : ∀ o, ((w'.alloc (.cells #[.int .i64 r] 3)).drew.setCell ⟨bi, k, none⟩ (.bool true)).frozen? ⟨bg, o, none⟩ = false := fun o => (World.frozen?_setCell _ _ _ _).trans (a5 o)
    have v3 : ((w'.alloc (.cells #[.int .i64 r] 3)).drew.setCell ⟨bi, k, none⟩ (.bool true)).cell? ⟨ob, 2, none⟩ = some (.int .i64 r) := (World.cell?_setCell_other _ _ _ _ (by simp)).trans a3
    have v4 : (((w'.alloc (.cells #[.int .i64 r] 3)).drew.setCell ⟨bi, k, none⟩ (.bool true)).setCell ⟨bg, k, none⟩ (.slice (some ⟨w'.heap.size, 0, none⟩) 1 1)).cell? ⟨ob, 2, none⟩ = some (.int .i64 r) := (World.cell?_setCell_other _ _ _ _ (by simp)).trans v3
    have y0 : (w'.setCell ⟨bi, k, none⟩ (.bool true)).cell? ⟨ob, 2, none⟩ = some (.int .i64 r) := (World.cell?_setCell_other _ _ _ _ (by simp)).trans dd0
    have y1 : (w'.setCell ⟨bi, k, none⟩ (.bool true)).cell? ⟨bg, k, none⟩ = some (.slice ao lo co) := (World.cell?_setCell_other _ _ _ _ (by simp)).trans gb
    have y2 : ∀ o, (w'.setCell ⟨bi, k, none⟩ (.bool true)).frozen? ⟨bg, o, none⟩ = false := fun o => (World.frozen?_setCell _ _ _ _).trans (fg o)
    have y3 : ((w'.setCell ⟨bi, k, none⟩ (.bool true)).alloc (.cells #[.int .i64 r] 3)).cell? ⟨bg, k, none⟩ = some (.slice ao lo co) := cell_alloc _ y1
    have y4 : ∀ o, ((w'.setCell ⟨bi, k, none⟩ (.bool true)).alloc (.cells #[.int .i64 r] 3)).frozen? ⟨bg, o, none⟩ = false := fun o => frozen_alloc _ (by have := g3.gave.lt; simpa using this) (y2 o)
    have y5 : ((w'.setCell ⟨bi, k, none⟩ (.bool true)).alloc (.cells #[.int .i64 r] 3)).cell? ⟨ob, 2, none⟩ = some (.int .i64 r) := cell_alloc _ y0
    have y6 : (((w'.setCell ⟨bi, k, none⟩ (.bool true)).alloc (.cells #[.int .i64 r] 3)).setCell ⟨bg, k, none⟩ (.slice (some ⟨w'.heap.size, 0, none⟩) 1 1)).cell? ⟨ob, 2, none⟩ = some (.int .i64 r) := (World.cell?_setCell_other _ _ _ _ (by simp)).trans y5
    have HG := hide (And.intro g1 (And.intro g2 g3))
    clear g1 g2 g3 hT CP
    go_upto_region 17 with fail
    have HX : Hid (∀ u, (∃ gv', LMem B w0 lv Inv D p bi bg ob es' (n + 1) c' (putN f k true) gv' (putN gl k [r]) u) → AfterH B w0 lv Inv D p bi bg ob i u) := fun u ⟨gv', hP⟩ => ⟨es', n + 1, c', _, _, _, hP, fit_perm (fit_push (unhide HS).fit (unhide HS).hk r n ((unhide HS).no_k hf)) (unhide HG).1, by have := (unhide HS).hn; omega, by have := (unhide HS).hc; have := (unhide HG).2.1; omega, fun j hj => by
      by_cases e : j = k
      · rw [e, putN_self]; simp
      · rw [putN_other _ _ e]; have := (unhide HS).hl j hj; omega⟩
    have HP1 := hide (((unhide HG).2.2.pushed (unhide HS).env (unhide HS).hk r).step (unhide HS).env (below_drewN (Below.refl _ _) 1))
    have HP2 := hide (((unhide HG).2.2.pushed2 (unhide HS).env (unhide HS).hk r).step (unhide HS).env (below_drewN (Below.refl _ _) 1))
    clear HG
    go_region_held3 (fun u => u.cell? ⟨ob, 2, none⟩ = some (.int .i64 r)) (first | exact dd0 | exact a3 | exact v3 | exact v4 | exact y0 | exact y5 | exact y6 | (go_keep; done)) (fail)
    all_goals
      go_wp2_with fail
      first
        | exact unhide HQ _ _ _ _ _ _ _ _ _ _ _ _ _ _ _ _ _ _ _ _ _ _ _ _ _ _ _ _ _ _ _ _ _ _ _ _ _ _ _ _ _ _ _ _ _ _ _ _ _ _ _ _ _ _ _ _ _ _ _ _ _ _ _ _ _ _ _ _ _ _ _ _ _ _ _ _ _ _ _ _ _ _ _ _ _ _ _ _ _ _ _ _ _ (unhide HX _ ⟨_, unhide HP1⟩)
        | exact unhide HQ _ _ _ _ _ _ _ _ _ _ _ _ _ _ _ _ _ _ _ _ _ _ _ _ _ _ _ _ _ _ _ _ _ _ _ _ _ _ _ _ _ _ _ _ _ _ _ _ _ _ _ _ _ _ _ _ _ _ _ _ _ _ _ _ _ _ _ _ _ _ _ _ _ _ _ _ _ _ _ _ _ _ _ _ _ _ _ _ _ _ _ _ _ (unhide HX _ ⟨_, unhide HP2⟩)
end Go.Proofs.Ytfhpabcjbjmcmaa
