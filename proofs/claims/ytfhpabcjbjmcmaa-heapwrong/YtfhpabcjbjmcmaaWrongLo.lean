/- HeapWrong's Lower. -/
import Derived.Test.YtfhpabcjbjmcmaaWrongP
namespace Go.Proofs.Ytfhpabcjbjmcmaa
open Go.RowKit Go.Maps

theorem info3i : (Try.prog.info? 3).map (fun i => (i.zero, i.size, i.bytes)) = some (some (.int .i64 0), 1, 8) := by kernel_rfl

theorem cells_new1 (w : World) (x : Value) (t : TypeId) : ∀ j u, [x][j]? = some u → (w.alloc (.cells #[x] t)).drew.cell? ((⟨w.heap.size, 0, none⟩ : Addr).add j) = some u := by
  intro j u hj
  have add : (⟨w.heap.size, 0, none⟩ : Addr).add j = ⟨w.heap.size, j, none⟩ := by unfold Addr.add; split <;> simp_all
  rw [add]
  have h1 : j < 1 := by
    have := (List.getElem?_eq_some_iff.1 hj).1
    simpa using this
  show (w.alloc (.cells #[x] t)).cell? _ = _
  rw [World.cell?_alloc_at _ _ _ _ (by simp)]
  match j, h1 with
  | 0, _ => simpa using hj

/-- One number more in a list. -/
theorem LMem.more [Inhabited EntI] {B : Nat} {w0 U : World} {lv : Value} {Inv : Nat → World → Prop} {A D : Nat → Prop} {p bi bg ob n c : Nat} {es : List EntI} {f : Nat → Bool} {gv : Nat → Value} {gl : Nat → List Int} {k : Nat} (h : LMem B w0 lv Inv D p bi bg ob es n c f gv gl U) (he : Env lv Inv A D) (hk : k < 16) (r : Int) (hl : (gl k).length ≤ 1000) :
    ∃ a1 n1 c1 w2, (Builtin.append_ #[34, 34] 34 #[gv k, .slice (some ⟨U.heap.size, 0, none⟩) 1 1]).run Try.prog (U.alloc (.cells #[.int .i64 r] 3)).drew = .ok (.slice a1 n1 c1) w2 ∧
      (w2.heap[bg]? = U.heap[bg]? ∧ w2.heap[ob]? = U.heap[ob]?) ∧ LMem B w0 lv Inv D p bi bg ob es n c f (putN gv k (.slice a1 n1 c1)) (putN gl k (gl k ++ [r])) (w2.setCell ⟨bg, k, none⟩ (.slice a1 n1 c1)) := by
  have hbi := h.ins.lt
  have hbg := h.gave.lt
  have hob := h.hob.2
  have hrm := h.room
  obtain ⟨m, v, hw, hf⟩ := h.heap
  obtain ⟨i0, hi0, hz0, hzs, hzb⟩ := info_parts info3i
  have hbA : Below U.heap.size U (U.alloc (.cells #[.int .i64 r] 3)).drew := below_drewN ((Below.refl U.heap.size U).alloc (Nat.le_refl _) _) 1
  have hszA : (U.alloc (.cells #[.int .i64 r] 3)).drew.heap.size = U.heap.size + 1 := by show (U.alloc _).heap.size = _; simp
  have hrA : (U.alloc (.cells #[.int .i64 r] 3)).drew.ownsRow B 3 1 (gv k) (gl k).length (nums (gl k)) := row1_kept (h.rows k hk) (fun b hb => hbA.block b ((h.rows k hk).lt b hb).2)
  obtain ⟨v1, w2, hr, hown, hgr, -, hloc⟩ := run_append_own_at (P := Try.prog) (U.alloc (.cells #[.int .i64 r] 3)).drew B 34 34 3 i0 _ 1 8 Try.underlying34 hi0 hz0 hzs hzb rfl (by omega) (gv k) (gl k).length (nums (gl k)) hrA ⟨U.heap.size, 0, none⟩ 1 1 [.int .i64 r] rfl
    (cells_new1 U _ _) (by intro u hu; simp at hu; rw [hu]; rfl) (by unfold maxLen; omega) (by omega) (by omega)
  have hloc' : ∀ b, v1.ownBlock = some b → (gv k).ownBlock = some b ∨ b = U.heap.size + 1 := fun b hb => by
    rcases hloc with e | e
    · exact .inl (e ▸ hb)
    · rw [hb, hszA] at e; exact .inr (Option.some.inj e)
  have same : ∀ j, j < U.heap.size → (gv k).ownBlock ≠ some j → w2.heap[j]? = U.heap[j]? := fun j hj hne => (hgr.block j (by omega) (fun e => hne e.symm)).trans (hbA.block j hj)
  have nbi : (gv k).ownBlock ≠ some bi := fun e => (h.apart k hk bi e).1 rfl
  have nbg : (gv k).ownBlock ≠ some bg := fun e => (h.apart k hk bg e).2.1 rfl
  have nob : (gv k).ownBlock ≠ some ob := fun e => (h.apart k hk ob e).2.2.1.1 rfl
  have hws : U.heap.size + 1 ≤ w2.heap.size := by have := hgr.size; omega
  obtain ⟨a1, n1, c1, rfl⟩ : ∃ a1 n1 c1, v1 = .slice a1 n1 c1 := by
    rcases hown.2 with ⟨e, -⟩ | ⟨g, cap, cur, e, -⟩
    · exact ⟨_, _, _, e⟩
    · exact ⟨_, _, _, e⟩
  have oth : ∀ j, j ≠ bg → (w2.setCell ⟨bg, k, none⟩ (.slice a1 n1 c1)).heap[j]? = w2.heap[j]? := fun j hj => heap_setCell_other _ _ _ _ hj
  have e1 : nums (gl k) ++ [.int .i64 r] = nums (gl k ++ [r]) := by simp [nums]
  have hD : ∀ j, D j → j < U.heap.size := fun j hj => he.lt _ _ _ hw.inv hj
  have hnew : ∀ b, (Value.slice a1 n1 c1).ownBlock = some b → b ≠ bi ∧ b ≠ bg ∧ (b ≠ ob ∧ ¬ D b) ∧ ∀ j, j < 16 → j ≠ k → (gv j).ownBlock ≠ some b := fun b hb => by
    rcases hloc' b hb with e | e
    · exact h.apart k hk b e
    · subst e
      exact ⟨by omega, by omega, ⟨by omega, fun hd => by have := hD _ hd; omega⟩, fun j hj _ e => by have := ((h.rows j hj).lt _ e).2; omega⟩
  refine ⟨a1, n1, c1, w2, hr, ⟨same _ hbg nbg, same _ hob nob⟩, ?_⟩
  have hb2 : Below B U w2 := ⟨(hgr.os).trans rfl, (hgr.tape).trans rfl, (hgr.output).trans rfl, by omega, fun j hj => same j (by omega) (fun e => by have := ((h.rows k hk).lt j e).1; omega)⟩
  refine ⟨(h.below.trans hb2).setCell (p := ⟨bg, k, none⟩) h.hbg.1 _, by simp; omega, ⟨m, v, ⟨hw.at_.kept (fun j hj => (oth j (hf j hj).2.2.1).trans (same j (hw.at_.lt hj) ((hf j hj).2.2.2.2 k hk))), he.keep _ _ _ hw.inv (fun j hj => (oth j (fun e => h.hbg.2 (e ▸ hj))).trans (same j (hD j hj) (fun e => (h.apart k hk j e).2.2.1.2 hj))), hw.off⟩, fun j hj => ⟨(hf j hj).1, (hf j hj).2.1, (hf j hj).2.2.1, (hf j hj).2.2.2.1, fun i hi e => ?_⟩⟩,
    h.ins.kept ((oth _ h.ne).trans (same _ hbi nbi)), (h.gave.kept (same _ hbg nbg)).set hk _, fun j hj => ?_, fun j hj b hb => ?_, h.ne, h.hbi, h.hbg, h.hob.1, by simp; omega⟩
  · by_cases e2 : i = k
    · rw [e2, putN_self] at e
      rcases hloc' j e with e3 | e3
      · exact (hf j hj).2.2.2.2 k hk e3
      · have := hw.at_.lt hj; omega
    · rw [putN_other _ _ e2] at e
      exact (hf j hj).2.2.2.2 i hi e
  · by_cases e2 : j = k
    · rw [e2, putN_self, putN_self, List.length_append, List.length_singleton, ← e1]
      exact row1_kept hown (fun b hb => oth b (hnew b hb).2.1)
    · rw [putN_other _ _ e2, putN_other _ _ e2]
      exact row1_kept (h.rows j hj) (fun b hb => (oth b (h.apart j hj b hb).2.1).trans (same b ((h.rows j hj).lt b hb).2 (fun e => (h.apart j hj b hb).2.2.2 k hk (fun e3 => e2 e3.symm) e)))
  · by_cases e2 : j = k
    · rw [e2, putN_self] at hb
      obtain ⟨z1, z2, z3, z4⟩ := hnew b hb
      refine ⟨z1, z2, z3, fun i hi hij => ?_⟩
      rw [putN_other _ _ (by rw [← e2]; exact hij)]
      exact z4 i hi (by rw [← e2]; exact hij)
    · rw [putN_other _ _ e2] at hb
      obtain ⟨z1, z2, z3, z4⟩ := h.apart j hj b hb
      refine ⟨z1, z2, z3, fun i hi hij e => ?_⟩
      by_cases e3 : i = k
      · rw [e3, putN_self] at e
        exact (hnew b e).2.2.2 j hj e2 hb
      · rw [putN_other _ _ e3] at e
        exact z4 i hi hij e

variable {B : Nat} {w0 W : World} {lv : Value} {Inv : Nat → World → Prop} {A D : Nat → Prop} {p bi bg ob : Nat} {es : List EntI} {n c : Nat} {f : Nat → Bool} {gv : Nat → Value} {gl : Nat → List Int} {kd kk r : Int} {k i : Nat}

set_option maxHeartbeats 8000000 in
set_option maxRecDepth 100000 in
theorem hLower [Inhabited EntI] (a0 a1 a2 a3 a4 a5 a9 a12 a13 a14 a15 a16 a17 a18 a19 a20 a21 a22 a23 a24 a25 a26 a27 a28 a29 a30 a31 a32 a33 a34 a35 a36 a37 a38 a39 a40 a41 a42 a43 a44 a45 a46 a47 a48 a49 a50 a51 a52 a53 a54 a55 a56 a57 a58 a59 a60 a61 a62 a63 a64 a65 a66 a67 a68 a69 a70 a71 a72 a73 a74 a75 a76 a77 a78 a79 a80 a81 a82 a83 a84 a85 a86 a87 a88 a89 a90 a91 a92 a93 a94 a95 a96 a97 a98 a99 a100 a101 a102 a103 a104 a105 a106 a107 a108 a109 a110 a111 a112 a113 a114 a115 a116 a117 a118 a119 a120 a121 a122 a123 a124 a125 a126 a127 a128 a129 a130 a131 a132 a133 a134 a135 a136 a137 a138 a139 a140 a141 a142 a143 : Value) (Q : Exit → Act → World → Prop) (HS : Hid (SwH B w0 lv Inv A D p bi bg ob es n c f gv gl W kd kk r k i)) (HQ : Hid (∀ (b12 b13 b14 b43 b44 b45 b46 b47 b48 b49 b50 b51 b52 b53 b54 b55 b56 b57 b58 b59 b60 b61 b62 b63 b64 b65 b66 b67 b68 b69 b70 b71 b72 b73 b74 b75 b76 b77 b78 b79 b80 b81 b82 b83 b84 b85 b86 b87 b88 b89 b90 b91 b92 b93 b94 b95 b96 b97 b98 b99 b100 b101 b102 b103 b104 b105 b106 b107 b108 b109 b110 b111 b112 b113 b114 b115 b116 b117 b118 b119 b120 b121 b122 b123 b124 b125 b126 b127 b128 b129 b130 b131 : Value) (wq : World), AfterH B w0 lv Inv D p bi bg ob i wq → Q .normal ⟨#[a0, a1, a2, a3, a4, a5, .pointer (some ⟨p, 0, none⟩), .pointer (some ⟨bi, 0, none⟩), .pointer (some ⟨bg, 0, none⟩), a9, .pointer (some ⟨ob, 0, none⟩), .int .i64 (k : Int), b12, b13, b14, a15, a16, a17, a18, a19, a20, a21, a22, a23, a24, a25, a26, a27, a28, a29, a30, a31, a32, a33, a34, a35, a36, a37, a38, a39, a40, a41, a42, b43, b44, b45, b46, b47, b48, b49, b50, b51, b52, b53, b54, b55, b56, b57, b58, b59, b60, b61, b62, b63, b64, b65, b66, b67, b68, b69, b70, b71, b72, b73, b74, b75, b76, b77, b78, b79, b80, b81, b82, b83, b84, b85, b86, b87, b88, b89, b90, b91, b92, b93, b94, b95, b96, b97, b98, b99, b100, b101, b102, b103, b104, b105, b106, b107, b108, b109, b110, b111, b112, b113, b114, b115, b116, b117, b118, b119, b120, b121, b122, b123, b124, b125, b126, b127, b128, b129, b130, b131, a132, a133, a134, a135, a136, a137, a138, a139, a140, a141, a142, a143], []⟩ wq)) (hd : kd = 2) :
    Code.wp Try.prog ((Try.f7.body.bind (atRegion 12)).getD .skip) Q ⟨#[a0, a1, a2, a3, a4, a5, .pointer (some ⟨p, 0, none⟩), .pointer (some ⟨bi, 0, none⟩), .pointer (some ⟨bg, 0, none⟩), a9, .pointer (some ⟨ob, 0, none⟩), .int .i64 (k : Int), a12, a13, a14, a15, a16, a17, a18, a19, a20, a21, a22, a23, a24, a25, a26, a27, a28, a29, a30, a31, a32, a33, a34, a35, a36, a37, a38, a39, a40, a41, a42, a43, a44, a45, a46, a47, a48, a49, a50, a51, a52, a53, a54, a55, a56, a57, a58, a59, a60, a61, a62, a63, a64, a65, a66, a67, a68, a69, a70, a71, a72, a73, a74, a75, a76, a77, a78, a79, a80, a81, a82, a83, a84, a85, a86, a87, a88, a89, a90, a91, a92, a93, a94, a95, a96, a97, a98, a99, a100, a101, a102, a103, a104, a105, a106, a107, a108, a109, a110, a111, a112, a113, a114, a115, a116, a117, a118, a119, a120, a121, a122, a123, a124, a125, a126, a127, a128, a129, a130, a131, a132, a133, a134, a135, a136, a137, a138, a139, a140, a141, a142, a143], []⟩ W := by
  conv => arg 2; whnf
  subst hd
  have q0 := (unhide HS).b0
  have q2 := (unhide HS).b2
  have hkz : (k : Int) < 16 := by have := (unhide HS).hk; omega
  cases hf : f k with
  | false =>
    have CL : Hid (Calls Try.prog 17 #[.pointer (some ⟨p, 0, none⟩), .int .i64 (k : Int), .int .i64 r] W fun e w' => e = .returned (.bool false) ∧ Hid (AfterH B w0 lv Inv D p bi bg ob i w')) := by
      obtain ⟨m, v, hw, -⟩ := (unhide HS).mem.heap
      refine (lowerOutI (k : Int) r _ hw.at_ (key16 (unhide HS).hk) ((unhide HS).no_k hf)).mono ?_
      rintro e w' ⟨he, q, rfl⟩
      exact ⟨he, ((unhide HS).draw q).same⟩
    go_upto_region 19 with fail
    go_wp2_with fail
    refine (unhide CL).mono ?_
    rintro e w' ⟨rfl, hT⟩
    go_wp2_with fail
    exact unhide HQ _ _ _ _ _ _ _ _ _ _ _ _ _ _ _ _ _ _ _ _ _ _ _ _ _ _ _ _ _ _ _ _ _ _ _ _ _ _ _ _ _ _ _ _ _ _ _ _ _ _ _ _ _ _ _ _ _ _ _ _ _ _ _ _ _ _ _ _ _ _ _ _ _ _ _ _ _ _ _ _ _ _ _ _ _ _ _ _ _ _ _ _ _ (unhide hT)
  | true =>
    have CL : Hid (Calls Try.prog 17 #[.pointer (some ⟨p, 0, none⟩), .int .i64 (k : Int), .int .i64 r] W fun e w' => ∃ R : Bool, e = .returned (.bool R) ∧ (w'.cell? ⟨ob, 2, none⟩ = some (.int .i64 r) ∧ w'.cell? ⟨bi, k, none⟩ = some (.bool true)) ∧ Hid (∃ es' c', es'.Perm (if R = true then lowered (k : Int) r es else es) ∧ c' ≤ c + 17 ∧ LMem B w0 lv Inv D p bi bg ob es' n c' f gv gl w')) := by
      have h := unhide HS
      obtain ⟨m, v, hw, hfo⟩ := h.mem.heap
      obtain ⟨j, hj, ej⟩ := h.at_k hf
      have hlen := h.len
      have h1 := lowerInW j r _ hw h.env hj (by omega) (by have := h.hc; have := h.hi; omega)
      rw [ej] at h1
      refine h1.mono ?_
      rintro e w' ⟨R, he, hch⟩
      obtain ⟨es', c', g1, g2, g3, g4⟩ := h.mem.called h.env hw hfo h.hA (unhide hch)
      exact ⟨R, he, ⟨box_cells h.box g4, by have := g3.ins.cell h.hk; (try dsimp only at this); rw [hf] at this; exact this⟩, es', c', g1, by omega, g3⟩
    go_upto_region 19 with fail
    go_wp2_with fail
    refine (unhide CL).mono ?_
    rintro e w' ⟨R, rfl, ⟨dd0, dd1⟩, hT⟩
    clear CL
    cases R with
    | false =>
      go_wp2_with fail
      obtain ⟨es', c', g1, g2, g3⟩ := unhide hT
      exact unhide HQ _ _ _ _ _ _ _ _ _ _ _ _ _ _ _ _ _ _ _ _ _ _ _ _ _ _ _ _ _ _ _ _ _ _ _ _ _ _ _ _ _ _ _ _ _ _ _ _ _ _ _ _ _ _ _ _ _ _ _ _ _ _ _ _ _ _ _ _ _ _ _ _ _ _ _ _ _ _ _ _ _ _ _ _ _ _ _ _ _ _ _ _ _ ⟨es', n, c', f, gv, gl, g3, fit_perm (unhide HS).fit (by simpa using g1), by have := (unhide HS).hn; omega, by have := (unhide HS).hc; omega, fun j hj => by have := (unhide HS).hl j hj; omega⟩
    | true =>
    obtain ⟨es', c', g1, g2, g3⟩ := unhide hT
    obtain ⟨a1', n1, c1', w2, hrun, ⟨k1, k2⟩, g4⟩ := g3.more (unhide HS).env (unhide HS).hk r (by have := (unhide HS).hl k (unhide HS).hk; have := (unhide HS).hi; omega)
    obtain ⟨ao, lo, co, hgv⟩ : ∃ (ao : Option Addr) (lo co : Nat), gv k = .slice ao lo co := by
      rcases (g3.rows k (unhide HS).hk).2 with ⟨e, -⟩ | ⟨g, cap, cur, e, -⟩
      · exact ⟨_, _, _, e⟩
      · exact ⟨_, _, _, e⟩
    have gb := g3.gave.cell (unhide HS).hk
    rw [hgv] at gb hrun
    have c2 : (w'.alloc (.cells #[.int .i64 r] 3)).cell? ⟨bg, k, none⟩ = some (.slice ao lo co) := cell_alloc _ gb
    have c3 : (w'.alloc (.cells #[.int .i64 r] 3)).cell? ⟨ob, 2, none⟩ = some (.int .i64 r) := cell_alloc _ dd0
    have d2 : w2.cell? ⟨bg, k, none⟩ = some (.slice ao lo co) := (cell_of_heap (x := ⟨bg, k, none⟩) k1).trans gb
    have d3 : w2.cell? ⟨ob, 2, none⟩ = some (.int .i64 r) := (cell_of_heap (x := ⟨ob, 2, none⟩) k2).trans dd0
    have d4 : ∀ o, w2.frozen? ⟨bg, o, none⟩ = false := fun o => by
      obtain ⟨fa, x1, -⟩ := g3.gave
      exact frozen_of_row _ _ o _ _ (k1.trans x1)
    have HX : Hid (AfterH B w0 lv Inv D p bi bg ob i (w2.setCell ⟨bg, k, none⟩ (.slice a1' n1 c1'))) := ⟨es', n, c', f, _, _, g4, fit_perm (fit_lowered (unhide HS).fit (unhide HS).hk r) (by simpa using g1), by have := (unhide HS).hn; omega, by have := (unhide HS).hc; omega, fun j hj => by
      by_cases e : j = k
      · rw [e, putN_self, List.length_append]; have := (unhide HS).hl k (unhide HS).hk; simp; omega
      · rw [putN_other _ _ e]; have := (unhide HS).hl j hj; omega⟩
    have HR := hide hrun
    clear g1 g2 g3 g4 k1 k2 hT hgv hrun
    go_upto_region 22 with fail
    refine wp_region_noPanic ?_
    refine regionL [9] (fun u => u.cell? ⟨bg, k, none⟩ = some (.slice ao lo co) ∧ u.cell? ⟨ob, 2, none⟩ = some (.int .i64 r)) (by kernel_rfl) ⟨gb, dd0⟩ (fun hHeld => ?_)
    refine takeL (i := 0) (v := ?tv0) (some 78) rfl rfl (by kernel_rfl) (by kernel_rfl) (by kernel_rfl) (by kernel_rfl) (by kernel_rfl) (fun _ _ _ h => h) (Or.inl ⟨by rfl, ?th0⟩) (by assumption) ?tr0
    case th0 => (intro u hSu; (try dsimp only at hSu); go_simp; first | done | with_reducible rfl)
    (try simp only [Act.put, List.setIfInBounds_toArray, List.set_cons_zero, List.set_cons_succ])
    refine takeL (i := 1) (v := ?tv1) (some 79) rfl rfl (by kernel_rfl) (by kernel_rfl) (by kernel_rfl) (by kernel_rfl) (by kernel_rfl) (fun _ _ _ h => h) (Or.inl ⟨by rfl, ?th1⟩) (by assumption) ?tr1
    case th1 => (intro u hSu; (try dsimp only at hSu); go_simp; first | done | with_reducible rfl)
    (try simp only [Act.put, List.setIfInBounds_toArray, List.set_cons_zero, List.set_cons_succ])
    refine takeL (i := 2) (v := ?tv2) (some 80) rfl rfl (by kernel_rfl) (by kernel_rfl) (by kernel_rfl) (by kernel_rfl) (by kernel_rfl) (fun _ _ _ h => h) (Or.inl ⟨by rfl, ?th2⟩) (by assumption) ?tr2
    case th2 => (intro u hSu; (try dsimp only at hSu); go_simp; first | done | with_reducible rfl)
    (try simp only [Act.put, List.setIfInBounds_toArray, List.set_cons_zero, List.set_cons_succ])
    refine takeL (i := 3) (v := ?tv3) (some 81) rfl rfl (by kernel_rfl) (by kernel_rfl) (by kernel_rfl) (by kernel_rfl) (by kernel_rfl) (fun _ _ _ h => h) (Or.inl ⟨by rfl, ?th3⟩) (by assumption) ?tr3
    case th3 => (intro u hSu; (try dsimp only at hSu); go_simp; first | done | with_reducible rfl)
    (try simp only [Act.put, List.setIfInBounds_toArray, List.set_cons_zero, List.set_cons_succ])
    refine takeL (i := 4) (v := ?tv4) (some 82) rfl rfl (by kernel_rfl) (by kernel_rfl) (by kernel_rfl) (by kernel_rfl) (by kernel_rfl) (fun _ _ _ h => h) (Or.inl ⟨by rfl, ?th4⟩) (by assumption) ?tr4
    case th4 => (intro u hSu; (try dsimp only at hSu); go_simp; first | done | with_reducible rfl)
    (try simp only [Act.put, List.setIfInBounds_toArray, List.set_cons_zero, List.set_cons_succ])
    refine takeL (i := 5) (v := ?tv5) (some 83) rfl rfl (by kernel_rfl) (by kernel_rfl) (by kernel_rfl) (by kernel_rfl) (by kernel_rfl) (fun _ _ _ h => h) (Or.inl ⟨by rfl, ?th5⟩) (by assumption) ?tr5
    case th5 => (intro u hSu; (try dsimp only at hSu); go_simp; first | done | with_reducible rfl)
    (try simp only [Act.put, List.setIfInBounds_toArray, List.set_cons_zero, List.set_cons_succ])
    refine readyL (i := 6) (by kernel_rfl) rfl (fun K hK => ?_)
    go_simp
    refine hK.out _ _ (fun _ => ⟨c2, c3⟩) ?_
    clear hK K
    (try simp only [Act.put, List.setIfInBounds_toArray, List.set_cons_zero, List.set_cons_succ])
    have hH2 := And.intro c2 c3
    refine readyL (i := 7) (by kernel_rfl) rfl (fun K hK => ?_)
    refine step_append_run rfl (.tmp 81) (.tmp 84) 34 rfl _ _ (by simp [Act.eval]) (by simp [Act.eval]) _ _ HR.out ?_
    refine hK.out _ _ (fun _ => ⟨d2, d3⟩) ?_
    clear hK K
    (try simp only [Act.put, List.setIfInBounds_toArray])
    have hH3 := And.intro d2 d3
    refine takeL (i := 8) (v := ?tv8) (some 86) rfl rfl (by kernel_rfl) (by kernel_rfl) (by kernel_rfl) (by kernel_rfl) (by kernel_rfl) (fun _ _ _ h => h) (Or.inl ⟨by rfl, ?th8⟩) (by assumption) ?tr8
    case th8 => (intro u hSu; (try dsimp only at hSu); go_simp; first | done | with_reducible rfl)
    (try simp only [Act.put])
    refine readyL (i := 9) (by kernel_rfl) rfl (fun K hK => ?_)
    go_simp
    refine hK.out _ _ (fun h => by cases h) ?_
    clear hK K
    (try simp only [Act.put, List.setIfInBounds_toArray, List.set_cons_zero, List.set_cons_succ])
    refine doneL (by kernel_rfl) ?_ _
    refine NoPanic.normal ?_
    clear gb c2 c3 d2 d3 d4 dd0 dd1 hH2 hH3 HR q0 q2
    go_wp2_with fail
    exact unhide HQ _ _ _ _ _ _ _ _ _ _ _ _ _ _ _ _ _ _ _ _ _ _ _ _ _ _ _ _ _ _ _ _ _ _ _ _ _ _ _ _ _ _ _ _ _ _ _ _ _ _ _ _ _ _ _ _ _ _ _ _ _ _ _ _ _ _ _ _ _ _ _ _ _ _ _ _ _ _ _ _ _ _ _ _ _ _ _ _ _ _ _ _ _ (unhide HX)
end Go.Proofs.Ytfhpabcjbjmcmaa
