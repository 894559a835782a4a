/- LiveBounded from region 25 on (made by mkbnd2.py). -/
import Derived.Test.YtbmcibofecigeaaBdD14
namespace Go.Proofs.Ytbmcibofecigeaa
open Go.RowKit Go.Maps
set_option maxHeartbeats 16000000 in
set_option maxRecDepth 100000 in
theorem bnd25 [Inhabited EntF] {w7 wr : World} {s : Int} {p gb ob hb : Nat} {lb cb : Bool} {m en en' nt : Nat} {k e u v n wr0 wr' : Int} {va va' ea ea' : Option Addr} {j vc vc' ec ec' : Nat} {vs' : List Int} {gs gs' : List EdV} {T T' : L14.Tr} (a1 a2 a3 a4 a7 a9 a12 a13 a14 a17 a18 a19 a20 a21 a22 a23 a24 a25 a26 a27 a28 a29 a30 a31 a32 a33 a34 a35 a36 a37 a38 a39 a40 a41 a42 a43 a44 a45 a46 a47 a48 a49 a50 a51 a52 a53 a54 a55 a56 a57 a58 a59 a60 a61 a62 a63 a64 a65 a66 a67 a68 a69 a70 a71 a72 a73 a74 a75 a76 a77 a78 a79 a80 a81 a82 a83 a84 a85 a86 a87 a88 a89 a90 a91 a92 a93 a94 a95 a96 a97 a98 a99 a100 a101 a102 a103 a104 a105 a106 a107 a108 a109 a110 a111 a112 a113 a114 a115 a116 a117 a118 a119 a120 a121 a122 a123 a124 a125 a126 a127 a128 a129 a130 a131 a132 a133 a134 a135 a136 a137 a138 a139 a140 a141 a142 a143 a144 a145 a146 a147 a148 a149 a150 a151 a152 a153 a154 a155 a156 a157 a158 a159 a160 a161 a162 a163 a164 a165 a166 a167 a168 a169 a170 a171 a172 a173 a174 a175 a176 a177 a178 a179 a180 a181 : Value) (Q : Exit → Act → World → Prop)
    (HAW : Hid (∀ W, Below w7.heap.size w7 W → AtK ob hb gb k e u v n (.slice va j vc) (.slice ea en ec) wr0 vs' gs (.slice va' j vc') (.slice ea' en' ec') wr' vs' gs' W))
    (CT : Hid (∀ W, Below w7.heap.size w7 W → Calls Try.prog 6 #[.pointer (some ⟨p, 0, none⟩)] W fun e w' => e = .returned (.int .i64 nt) ∧ w' = W))
    (HLS7 : Hid (Lst vs' gs s (farAt (dsL vs' T)) (bitsAt (dsL vs' T)) ∧ Lst vs' gs' s (farAt (dsL vs' T')) (bitsAt (dsL vs' T')) ∧ (gs.map (·.1)).Nodup ∧ (gs'.map (·.1)).Nodup ∧ gs.length ≤ 1000 ∧ gs'.length ≤ 1000 ∧ vs'.length ≤ 1000))
    (HLN : Hid (j = vs'.length ∧ en = gs.length)) (HLN2 : Hid (j = vs'.length ∧ en' = gs'.length)) (HLB : Hid (lb = lastB T vs' e))
    (HCS : Hid (k = 3 ∧ (0 < nt → chB T T' vs' vs'.length = true) ∨ k = 4 ∧ (0 < nt → ∃ v, v ∈ vs' ∧ L14.lst T v = e ∧ e ≠ 0) ∨ k = 5 ∧ ∃ (i : Nat) (u v : Int) (c c2 : Nat), gs[i]? = some (e, u, v, ((c : Nat) : Int)) ∧ gs'[i]? = some (e, u, v, ((c2 : Nat) : Int)) ∧ (c < c2 ∧ (0 < nt → ∃ v, v ∈ vs' ∧ L14.lst T v = e ∧ e ≠ 0) ∨ ¬c < c2 ∧ (0 < nt → chB T T' vs' vs'.length = true))))
    (HCC : Hid (cb = chB T T' vs' vs'.length)) (r1 : ¬ (nt : Int) < 0) (r2 : ¬ (m : Int) < (nt : Int)) (HBL : Hid (Below w7.heap.size w7 wr))
    (HQ : Hid (∀ (b18 b19 b20 b124 b125 b126 b127 b128 b129 b130 b131 b132 b133 b134 b135 b136 b137 b138 b139 b140 b141 b142 b143 b144 b145 b146 b147 b148 b149 b150 b151 b152 b153 b154 b155 b156 b157 b158 b159 b160 b161 b162 b163 b164 b165 b166 b167 b168 b169 b170 b171 b172 b173 b174 b175 b176 b177 b178 b179 b180 b181 : Value) (wz : World), Below w7.heap.size w7 wz → Q .normal ⟨#[.int .i64 s, a1, a2, a3, a4, .pointer (some ⟨p, 0, none⟩), .pointer (some ⟨gb, 0, none⟩), a7, .pointer (some ⟨ob, 0, none⟩), a9, .pointer (some ⟨hb, 0, none⟩), .bool lb, a12, a13, a14, .int .i64 (m : Nat), .bool cb, a17, b18, b19, b20, a21, a22, a23, a24, a25, a26, a27, a28, a29, a30, a31, a32, a33, a34, a35, a36, a37, a38, a39, a40, a41, a42, a43, a44, a45, a46, a47, a48, a49, a50, a51, a52, a53, a54, a55, a56, a57, a58, a59, a60, a61, a62, a63, a64, a65, a66, a67, a68, a69, a70, a71, a72, a73, a74, a75, a76, a77, a78, a79, a80, a81, a82, a83, a84, a85, a86, a87, a88, a89, a90, a91, a92, a93, a94, a95, a96, a97, a98, a99, a100, a101, a102, a103, a104, a105, a106, a107, a108, a109, a110, a111, a112, a113, a114, a115, a116, a117, a118, a119, a120, a121, a122, a123, b124, b125, b126, b127, b128, b129, b130, b131, b132, b133, b134, b135, b136, b137, b138, b139, b140, b141, b142, b143, b144, b145, b146, b147, b148, b149, b150, b151, b152, b153, b154, b155, b156, b157, b158, b159, b160, b161, b162, b163, b164, b165, b166, b167, b168, b169, b170, b171, b172, b173, b174, b175, b176, b177, b178, b179, b180, b181], []⟩ wz)) :
    Code.wp Try.prog ((Try.f3.body.bind (fromRegion 25)).getD .skip) Q ⟨#[.int .i64 s, a1, a2, a3, a4, .pointer (some ⟨p, 0, none⟩), .pointer (some ⟨gb, 0, none⟩), a7, .pointer (some ⟨ob, 0, none⟩), a9, .pointer (some ⟨hb, 0, none⟩), .bool lb, a12, a13, a14, .int .i64 (m : Nat), .bool cb, a17, a18, a19, a20, a21, a22, a23, a24, a25, a26, a27, a28, a29, a30, a31, a32, a33, a34, a35, a36, a37, a38, a39, a40, a41, a42, a43, a44, a45, a46, a47, a48, a49, a50, a51, a52, a53, a54, a55, a56, a57, a58, a59, a60, a61, a62, a63, a64, a65, a66, a67, a68, a69, a70, a71, a72, a73, a74, a75, a76, a77, a78, a79, a80, a81, a82, a83, a84, a85, a86, a87, a88, a89, a90, a91, a92, a93, a94, a95, a96, a97, a98, a99, a100, a101, a102, a103, a104, a105, a106, a107, a108, a109, a110, a111, a112, a113, a114, a115, a116, a117, a118, a119, a120, a121, a122, a123, a124, a125, a126, a127, a128, a129, a130, a131, a132, a133, a134, a135, a136, a137, a138, a139, a140, a141, a142, a143, a144, a145, a146, a147, a148, a149, a150, a151, a152, a153, a154, a155, a156, a157, a158, a159, a160, a161, a162, a163, a164, a165, a166, a167, a168, a169, a170, a171, a172, a173, a174, a175, a176, a177, a178, a179, a180, a181], []⟩ wr := by
  conv => arg 2; whnf
  obtain ⟨⟨d0, d1, d2, d3, d4⟩, -⟩ := cellsOpF (unhide HAW wr (unhide HBL)).op
  rcases unhide HCS with ⟨hk, hch⟩ | ⟨hk, hla⟩ | ⟨hk, ix, xu, xv, c, c2, hgi, hgi', hcase⟩
  · subst hk
    have HH := hide hch
    clear hch HCS
    repeat ((fail_if_success (with_reducible change Code.wp _ (Code.seq (Code.region 29 _ _) _) _ _ _)); go_step)
    refine bnd29 _ _ _ _ _ _ _ _ _ _ _ _ _ _ _ _ _ _ _ _ _ _ _ _ _ _ _ _ _ _ _ _ _ _ _ _ _ _ _ _ _ _ _ _ _ _ _ _ _ _ _ _ _ _ _ _ _ _ _ _ _ _ _ _ _ _ _ _ _ _ _ _ _ _ _ _ _ _ _ _ _ _ _ _ _ _ _ _ _ _ _ _ _ _ _ _ _ _ _ _ _ _ _ _ _ _ _ _ _ _ _ _ _ _ _ _ _ _ _ _ _ _ _ _ _ _ _ _ _ _ _ _ _ _ _ _ _ _ _ _ _ _ _ _ _ _ _ _ _ _ _ _ _ _ _ _ _ _ _ _ _ _ _ _ _ _ _ _ _ _ _ _ _ _ _ _ _ _ CT (by omega) (by omega) (fun z => by cases z) (fun _ z => (unhide HCC).trans (unhide HH z)) HBL ?_
    rintro y20 y150 y151 y152 y153 y154 y155 y156 y157 y158 y159 y160 y161 y162 y163 y164 y165 y166 y167 y168 y169 y170 y171 y172 y173 y174 y175 y176 y177 y178 y179 y180 y181 wz hbz
    exact unhide HQ _ _ _ _ _ _ _ _ _ _ _ _ _ _ _ _ _ _ _ _ _ _ _ _ _ _ _ _ _ _ _ _ _ _ _ _ _ _ _ _ _ _ _ _ _ _ _ _ _ _ _ _ _ _ _ _ _ _ _ _ _ _ hbz
  · subst hk
    have HH := hide hla
    clear hla HCS
    repeat ((fail_if_success (with_reducible change Code.wp _ (Code.seq (Code.region 29 _ _) _) _ _ _)); go_step)
    refine bnd29 _ _ _ _ _ _ _ _ _ _ _ _ _ _ _ _ _ _ _ _ _ _ _ _ _ _ _ _ _ _ _ _ _ _ _ _ _ _ _ _ _ _ _ _ _ _ _ _ _ _ _ _ _ _ _ _ _ _ _ _ _ _ _ _ _ _ _ _ _ _ _ _ _ _ _ _ _ _ _ _ _ _ _ _ _ _ _ _ _ _ _ _ _ _ _ _ _ _ _ _ _ _ _ _ _ _ _ _ _ _ _ _ _ _ _ _ _ _ _ _ _ _ _ _ _ _ _ _ _ _ _ _ _ _ _ _ _ _ _ _ _ _ _ _ _ _ _ _ _ _ _ _ _ _ _ _ _ _ _ _ _ _ _ _ _ _ _ _ _ _ _ _ _ _ _ _ _ _ CT (by omega) (by omega) (fun _ z => (unhide HLB).trans (lastB_yes (unhide HH z))) (fun z => by cases z) HBL ?_
    rintro y20 y150 y151 y152 y153 y154 y155 y156 y157 y158 y159 y160 y161 y162 y163 y164 y165 y166 y167 y168 y169 y170 y171 y172 y173 y174 y175 y176 y177 y178 y179 y180 y181 wz hbz
    exact unhide HQ _ _ _ _ _ _ _ _ _ _ _ _ _ _ _ _ _ _ _ _ _ _ _ _ _ _ _ _ _ _ _ _ _ _ _ _ _ _ _ _ _ _ _ _ _ _ _ _ _ _ _ _ _ _ _ _ _ _ _ _ _ _ hbz
  · subst hk
    have hA0 := unhide HAW wr (unhide HBL)
    have hix := (List.getElem?_eq_some_iff.1 hgi).1
    have hix' := (List.getElem?_eq_some_iff.1 hgi').1
    obtain ⟨ge, rfl⟩ := rrow_some hA0.e1 (by omega)
    obtain ⟨ge', rfl⟩ := rrow_some hA0.e2 (by omega)
    have x1 : (ix : Int) < (en : Int) := by rw [(unhide HLN).2]; omega
    have x2 : (ix : Int) < (en' : Int) := by rw [(unhide HLN2).2]; omega
    have hK3 : ∀ W, Below w7.heap.size w7 W → (W.cell? ⟨ge', ix * 4 + 3, none⟩ = some (.int .u32 (c2 : Nat)) ∧ W.cell? ⟨ge, ix * 4 + 3, none⟩ = some (.int .u32 (c : Nat)) ∧ W.cell? ⟨ob, 1, none⟩ = some (.int .i64 e) ∧ (W.cell? ⟨hb, 0, none⟩ = some (.slice va j vc) ∧ W.cell? ⟨hb, 1, none⟩ = some (.slice (some ⟨ge, 0, none⟩) en ec) ∧ W.cell? ⟨hb, 2, none⟩ = some (.int .i64 0) ∧ W.cell? ⟨hb, 3, none⟩ = some (.int .i64 wr0)) ∧ W.cell? ⟨gb, 0, none⟩ = some (.slice va' j vc') ∧ W.cell? ⟨gb, 1, none⟩ = some (.slice (some ⟨ge', 0, none⟩) en' ec') ∧ W.cell? ⟨gb, 2, none⟩ = some (.int .i64 0) ∧ W.cell? ⟨gb, 3, none⟩ = some (.int .i64 wr')) := fun W hW => by
      have hA := unhide HAW W hW
      obtain ⟨x0, x1, x2, x3, -⟩ := cellsG hA.old
      obtain ⟨y0, y1, y2, y3, -⟩ := cellsG hA.new
      obtain ⟨⟨v0, v1, v2, v3, v4⟩, -⟩ := cellsOpF hA.op
      exact ⟨(erow_at hA.e2 hgi').2.2.2, (erow_at hA.e1 hgi).2.2.2, v1, ⟨x0, x1, x2, x3⟩, y0, y1, y2, y3⟩
    have A1 : Hid (∀ W, Below w7.heap.size w7 W → Calls Try.prog 11 #[.agg #[.slice va j vc, .slice (some ⟨ge, 0, none⟩) en ec, .int .i64 0, .int .i64 wr0], .int .i64 e] W fun r w' => r = .returned (.int .i64 (ix : Nat)) ∧ Hid (Below W.heap.size W w')) := fun W hW => by
      have := atR (vv := .slice va j vc) (rd := 0) (wr := wr0) (e := e) (unhide HAW W hW).e1 (by have := (unhide HLS7).2.2.2.2.1; omega)
      rw [show atOf gs e = (ix : Int) from atOf_some (unhide HLS7).2.2.1 hgi] at this
      exact this
    have A2 : Hid (∀ W, Below w7.heap.size w7 W → Calls Try.prog 11 #[.agg #[.slice va' j vc', .slice (some ⟨ge', 0, none⟩) en' ec', .int .i64 0, .int .i64 wr'], .int .i64 e] W fun r w' => r = .returned (.int .i64 (ix : Nat)) ∧ Hid (Below W.heap.size W w')) := fun W hW => by
      have := atR (vv := .slice va' j vc') (rd := 0) (wr := wr') (e := e) (unhide HAW W hW).e2 (by have := (unhide HLS7).2.2.2.2.2.1; omega)
      rw [show atOf gs' e = (ix : Int) from atOf_some (unhide HLS7).2.2.2.1 hgi'] at this
      exact this
    have C1 := hide (unhide A1 wr (unhide HBL))
    obtain ⟨k3, k3', -, ⟨o0, o1, o2, o3⟩, c0, c1, c2_, c3⟩ := hK3 wr (unhide HBL)
    have HK3 := hide hK3
    clear hA0 hix hix' hK3 A1 hgi hgi'
    go_wp2_with fail
    refine (unhide C1).mono ?_
    rintro e11 w11 ⟨rfl, hb11⟩
    have HB11 : Hid (Below w7.heap.size w7 w11) := (unhide HBL).trans ((unhide hb11).mono (unhide HBL).size)
    clear C1 hb11 k3 k3' o0 o1 o2 o3 c0 c1 c2_ c3 d0 d1 d2 d3 d4
    go_upto_region 28 with fail
    have hS0 := unhide HK3 w11.drew (below_drewN (unhide HB11) 1)
    obtain ⟨wd2, hwd⟩ : ∃ wd2, wd2 = w11.drew := ⟨_, rfl⟩
    have HBD : Hid (Below w7.heap.size w7 wd2) := by rw [hwd]; exact below_drewN (unhide HB11) 1
    have HWD := hide hwd
    have hS := unhide HK3 wd2 (unhide HBD)
    clear hwd
    have key : ∀ ub : Bool, ub = decide (c < c2) → ((ub = true → 0 < nt → lb = true) ∧ (ub = false → 0 < nt → cb = true)) := fun ub hub => by
      rcases hcase with ⟨q1, q2⟩ | ⟨q1, q2⟩
      · exact ⟨fun _ z => (unhide HLB).trans (lastB_yes (q2 z)), fun y => absurd y (by rw [hub, decide_eq_true q1]; decide)⟩
      · exact ⟨fun y => absurd y (by rw [hub, decide_eq_false q1]; decide), fun _ z => (unhide HCC).trans (q2 z)⟩
    by_cases hcc : c < c2
    · have x3 : (c : Int) < (c2 : Int) := by omega
      obtain ⟨q1, -⟩ := key true (decide_eq_true hcc).symm
      have HQ3 := hide (q1 rfl)
      clear key hcase hcc q1 HCS HCC
      refine wp_region_noPanic ?_
      refine regionL [] (fun y => (y.cell? ⟨ge', ix * 4 + 3, none⟩ = some (.int .u32 (c2 : Nat)) ∧ y.cell? ⟨ge, ix * 4 + 3, none⟩ = some (.int .u32 (c : Nat)) ∧ y.cell? ⟨ob, 1, none⟩ = some (.int .i64 e) ∧ (y.cell? ⟨hb, 0, none⟩ = some (.slice va j vc) ∧ y.cell? ⟨hb, 1, none⟩ = some (.slice (some ⟨ge, 0, none⟩) en ec) ∧ y.cell? ⟨hb, 2, none⟩ = some (.int .i64 0) ∧ y.cell? ⟨hb, 3, none⟩ = some (.int .i64 wr0)) ∧ y.cell? ⟨gb, 0, none⟩ = some (.slice va' j vc') ∧ y.cell? ⟨gb, 1, none⟩ = some (.slice (some ⟨ge', 0, none⟩) en' ec') ∧ y.cell? ⟨gb, 2, none⟩ = some (.int .i64 0) ∧ y.cell? ⟨gb, 3, none⟩ = some (.int .i64 wr'))) (by kernel_rfl) hS0 (fun hHeld => ?_)
      rw [← unhide HWD]
      clear HWD hS0
      refine takeL (i := 0) (v := ?t2v0) (some 134) rfl rfl (by kernel_rfl) (by kernel_rfl) (by kernel_rfl) (by kernel_rfl) (by kernel_rfl) (fun _ _ _ h => h) (Or.inl ⟨by rfl, ?t2h0⟩) (by assumption) ?t2r0
      case t2h0 => (intro y hSu; (try dsimp only at hSu); go_simp; first | done | with_reducible rfl)
      (try simp only [Act.put, List.setIfInBounds_toArray, List.set_cons_zero, List.set_cons_succ])
      refine takeL (i := 1) (v := ?t2v1) (some 135) rfl rfl (by kernel_rfl) (by kernel_rfl) (by kernel_rfl) (by kernel_rfl) (by kernel_rfl) (fun _ _ _ h => h) (Or.inl ⟨by rfl, ?t2h1⟩) (by assumption) ?t2r1
      case t2h1 => (intro y hSu; (try dsimp only at hSu); go_simp; first | done | with_reducible rfl)
      (try simp only [Act.put, List.setIfInBounds_toArray, List.set_cons_zero, List.set_cons_succ])
      refine takeL (i := 2) (v := ?t2v2) (some 136) rfl rfl (by kernel_rfl) (by kernel_rfl) (by kernel_rfl) (by kernel_rfl) (by kernel_rfl) (fun _ _ _ h => h) (Or.inl ⟨by rfl, ?t2h2⟩) (by assumption) ?t2r2
      case t2h2 => (intro y hSu; (try dsimp only at hSu); go_simp; first | done | with_reducible rfl)
      (try simp only [Act.put, List.setIfInBounds_toArray, List.set_cons_zero, List.set_cons_succ])
      refine takeL (i := 3) (v := ?t2v3) (some 137) rfl rfl (by kernel_rfl) (by kernel_rfl) (by kernel_rfl) (by kernel_rfl) (by kernel_rfl) (fun _ _ _ h => h) (Or.inl ⟨by rfl, ?t2h3⟩) (by assumption) ?t2r3
      case t2h3 => (intro y hSu; (try dsimp only at hSu); go_simp; first | done | with_reducible rfl)
      (try simp only [Act.put, List.setIfInBounds_toArray, List.set_cons_zero, List.set_cons_succ])
      refine takeL (i := 4) (v := ?t2v4) (some 138) rfl rfl (by kernel_rfl) (by kernel_rfl) (by kernel_rfl) (by kernel_rfl) (by kernel_rfl) (fun _ _ _ h => h) (Or.inl ⟨by rfl, ?t2h4⟩) (by assumption) ?t2r4
      case t2h4 => (intro y hSu; (try dsimp only at hSu); go_simp; first | done | with_reducible rfl)
      (try simp only [Act.put, List.setIfInBounds_toArray, List.set_cons_zero, List.set_cons_succ])
      refine takeL (i := 9) (v := ?t2v9) (some 143) rfl rfl (by kernel_rfl) (by kernel_rfl) (by kernel_rfl) (by kernel_rfl) (by kernel_rfl) (fun _ _ _ h => h) (Or.inl ⟨by rfl, ?t2h9⟩) (by assumption) ?t2r9
      case t2h9 => (intro y hSu; (try dsimp only at hSu); go_simp; first | done | with_reducible rfl)
      (try simp only [Act.put, List.setIfInBounds_toArray, List.set_cons_zero, List.set_cons_succ])
      refine takeL (i := 10) (v := ?t2v10) (some 144) rfl rfl (by kernel_rfl) (by kernel_rfl) (by kernel_rfl) (by kernel_rfl) (by kernel_rfl) (fun _ _ _ h => h) (Or.inl ⟨by rfl, ?t2h10⟩) (by assumption) ?t2r10
      case t2h10 => (intro y hSu; (try dsimp only at hSu); go_simp; first | done | with_reducible rfl)
      (try simp only [Act.put, List.setIfInBounds_toArray, List.set_cons_zero, List.set_cons_succ])
      refine takeL (i := 11) (v := ?t2v11) (some 145) rfl rfl (by kernel_rfl) (by kernel_rfl) (by kernel_rfl) (by kernel_rfl) (by kernel_rfl) (fun _ _ _ h => h) (Or.inl ⟨by rfl, ?t2h11⟩) (by assumption) ?t2r11
      case t2h11 => (intro y hSu; (try dsimp only at hSu); go_simp; first | done | with_reducible rfl)
      (try simp only [Act.put, List.setIfInBounds_toArray, List.set_cons_zero, List.set_cons_succ])
      refine takeL (i := 12) (v := ?t2v12) (some 146) rfl rfl (by kernel_rfl) (by kernel_rfl) (by kernel_rfl) (by kernel_rfl) (by kernel_rfl) (fun _ _ _ h => h) (Or.inl ⟨by rfl, ?t2h12⟩) (by assumption) ?t2r12
      case t2h12 => (intro y hSu; (try dsimp only at hSu); go_simp; first | done | with_reducible rfl)
      (try simp only [Act.put, List.setIfInBounds_toArray, List.set_cons_zero, List.set_cons_succ])
      refine takeL (i := 13) (v := ?t2v13) (some 147) rfl rfl (by kernel_rfl) (by kernel_rfl) (by kernel_rfl) (by kernel_rfl) (by kernel_rfl) (fun _ _ _ h => h) (Or.inl ⟨by rfl, ?t2h13⟩) (by assumption) ?t2r13
      case t2h13 => (intro y hSu; (try dsimp only at hSu); go_simp; first | done | with_reducible rfl)
      (try simp only [Act.put, List.setIfInBounds_toArray, List.set_cons_zero, List.set_cons_succ])
      refine takeL (i := 14) (v := ?t2v14) (some 148) rfl rfl (by kernel_rfl) (by kernel_rfl) (by kernel_rfl) (by kernel_rfl) (by kernel_rfl) (fun _ _ _ h => h) (Or.inl ⟨by rfl, ?t2h14⟩) (by assumption) ?t2r14
      case t2h14 => (intro y hSu; (try dsimp only at hSu); go_simp; first | done | with_reducible rfl)
      (try simp only [Act.put, List.setIfInBounds_toArray, List.set_cons_zero, List.set_cons_succ])
      refine readyL (i := 5) (by kernel_rfl) rfl (fun K hK => ?_)
      go_simp
      refine (unhide A2 wd2 (unhide HBD)).mono ?_
      rintro e13 w13 ⟨rfl, hb13⟩
      have HB13 : Hid (Below w7.heap.size w7 w13) := (unhide HBD).trans ((unhide hb13).mono (unhide HBD).size)
      have hS13 := unhide HK3 w13 (unhide HB13)
      clear hb13 hS A2
      refine hK.out _ _ (fun _ => hS13) ?_
      clear hK K
      (try simp only [Act.put, List.setIfInBounds_toArray, List.set_cons_zero, List.set_cons_succ])
      have hH4 := hS13
      refine takeL (i := 6) (v := ?t5v6) (some 140) rfl rfl (by kernel_rfl) (by kernel_rfl) (by kernel_rfl) (by kernel_rfl) (by kernel_rfl) (fun _ _ _ h => h) (Or.inl ⟨by rfl, ?t5h6⟩) (by assumption) ?t5r6
      case t5h6 => (intro y hSu; (try dsimp only at hSu); go_simp; first | done | with_reducible rfl)
      (try simp only [Act.put, List.setIfInBounds_toArray, List.set_cons_zero, List.set_cons_succ])
      refine takeL (i := 7) (v := ?t5v7) (some 141) rfl rfl (by kernel_rfl) (by kernel_rfl) (by kernel_rfl) (by kernel_rfl) (by kernel_rfl) (fun _ _ _ h => h) (Or.inl ⟨by rfl, ?t5h7⟩) (by assumption) ?t5r7
      case t5h7 => (intro y hSu; (try dsimp only at hSu); go_simp; first | done | with_reducible rfl)
      (try simp only [Act.put, List.setIfInBounds_toArray, List.set_cons_zero, List.set_cons_succ])
      refine takeL (i := 8) (v := ?t5v8) (some 142) rfl rfl (by kernel_rfl) (by kernel_rfl) (by kernel_rfl) (by kernel_rfl) (by kernel_rfl) (fun _ _ _ h => h) (Or.inl ⟨by rfl, ?t5h8⟩) (by assumption) ?t5r8
      case t5h8 => (intro y hSu; (try dsimp only at hSu); go_simp; first | done | with_reducible rfl)
      (try simp only [Act.put, List.setIfInBounds_toArray, List.set_cons_zero, List.set_cons_succ])
      refine takeL (i := 15) (v := ?t5v15) (some 149) rfl rfl (by kernel_rfl) (by kernel_rfl) (by kernel_rfl) (by kernel_rfl) (by kernel_rfl) (fun _ _ _ h => h) (Or.inl ⟨by rfl, ?t5h15⟩) (by assumption) ?t5r15
      case t5h15 => (intro y hSu; (try dsimp only at hSu); go_simp; first | done | with_reducible rfl)
      (try simp only [Act.put, List.setIfInBounds_toArray, List.set_cons_zero, List.set_cons_succ])
      refine takeL (i := 16) (v := ?t5v16) (some 18) rfl rfl (by kernel_rfl) (by kernel_rfl) (by kernel_rfl) (by kernel_rfl) (by kernel_rfl) (fun _ _ _ h => h) (Or.inl ⟨by rfl, ?t5h16⟩) (by assumption) ?t5r16
      case t5h16 => (intro y hSu; (try dsimp only at hSu); go_simp; first | done | with_reducible rfl)
      (try simp only [Act.put, List.setIfInBounds_toArray, List.set_cons_zero, List.set_cons_succ])
      refine doneL (by kernel_rfl) ?_ _
      refine NoPanic.normal ?_
      clear hS13 HK3 HBD HB11
      repeat ((fail_if_success (with_reducible change Code.wp _ (Code.seq (Code.region 29 _ _) _) _ _ _)); go_step)
      refine bnd29 _ _ _ _ _ _ _ _ _ _ _ _ _ _ _ _ _ _ _ _ _ _ _ _ _ _ _ _ _ _ _ _ _ _ _ _ _ _ _ _ _ _ _ _ _ _ _ _ _ _ _ _ _ _ _ _ _ _ _ _ _ _ _ _ _ _ _ _ _ _ _ _ _ _ _ _ _ _ _ _ _ _ _ _ _ _ _ _ _ _ _ _ _ _ _ _ _ _ _ _ _ _ _ _ _ _ _ _ _ _ _ _ _ _ _ _ _ _ _ _ _ _ _ _ _ _ _ _ _ _ _ _ _ _ _ _ _ _ _ _ _ _ _ _ _ _ _ _ _ _ _ _ _ _ _ _ _ _ _ _ _ _ _ _ _ _ _ _ _ _ _ _ _ _ _ _ _ _ CT (by omega) (by omega) (fun _ z => unhide HQ3 z) (fun z => by cases z) HB13 ?_
      rintro y20 y150 y151 y152 y153 y154 y155 y156 y157 y158 y159 y160 y161 y162 y163 y164 y165 y166 y167 y168 y169 y170 y171 y172 y173 y174 y175 y176 y177 y178 y179 y180 y181 wz hbz
      exact unhide HQ _ _ _ _ _ _ _ _ _ _ _ _ _ _ _ _ _ _ _ _ _ _ _ _ _ _ _ _ _ _ _ _ _ _ _ _ _ _ _ _ _ _ _ _ _ _ _ _ _ _ _ _ _ _ _ _ _ _ _ _ _ _ hbz
    · have x3 : ¬ (c : Int) < (c2 : Int) := by omega
      obtain ⟨-, q1⟩ := key false (decide_eq_false hcc).symm
      have HQ3 := hide (q1 rfl)
      clear key hcase hcc q1 HCS HCC
      refine wp_region_noPanic ?_
      refine regionL [] (fun y => (y.cell? ⟨ge', ix * 4 + 3, none⟩ = some (.int .u32 (c2 : Nat)) ∧ y.cell? ⟨ge, ix * 4 + 3, none⟩ = some (.int .u32 (c : Nat)) ∧ y.cell? ⟨ob, 1, none⟩ = some (.int .i64 e) ∧ (y.cell? ⟨hb, 0, none⟩ = some (.slice va j vc) ∧ y.cell? ⟨hb, 1, none⟩ = some (.slice (some ⟨ge, 0, none⟩) en ec) ∧ y.cell? ⟨hb, 2, none⟩ = some (.int .i64 0) ∧ y.cell? ⟨hb, 3, none⟩ = some (.int .i64 wr0)) ∧ y.cell? ⟨gb, 0, none⟩ = some (.slice va' j vc') ∧ y.cell? ⟨gb, 1, none⟩ = some (.slice (some ⟨ge', 0, none⟩) en' ec') ∧ y.cell? ⟨gb, 2, none⟩ = some (.int .i64 0) ∧ y.cell? ⟨gb, 3, none⟩ = some (.int .i64 wr'))) (by kernel_rfl) hS0 (fun hHeld => ?_)
      rw [← unhide HWD]
      clear HWD hS0
      refine takeL (i := 0) (v := ?t8v0) (some 134) rfl rfl (by kernel_rfl) (by kernel_rfl) (by kernel_rfl) (by kernel_rfl) (by kernel_rfl) (fun _ _ _ h => h) (Or.inl ⟨by rfl, ?t8h0⟩) (by assumption) ?t8r0
      case t8h0 => (intro y hSu; (try dsimp only at hSu); go_simp; first | done | with_reducible rfl)
      (try simp only [Act.put, List.setIfInBounds_toArray, List.set_cons_zero, List.set_cons_succ])
      refine takeL (i := 1) (v := ?t8v1) (some 135) rfl rfl (by kernel_rfl) (by kernel_rfl) (by kernel_rfl) (by kernel_rfl) (by kernel_rfl) (fun _ _ _ h => h) (Or.inl ⟨by rfl, ?t8h1⟩) (by assumption) ?t8r1
      case t8h1 => (intro y hSu; (try dsimp only at hSu); go_simp; first | done | with_reducible rfl)
      (try simp only [Act.put, List.setIfInBounds_toArray, List.set_cons_zero, List.set_cons_succ])
      refine takeL (i := 2) (v := ?t8v2) (some 136) rfl rfl (by kernel_rfl) (by kernel_rfl) (by kernel_rfl) (by kernel_rfl) (by kernel_rfl) (fun _ _ _ h => h) (Or.inl ⟨by rfl, ?t8h2⟩) (by assumption) ?t8r2
      case t8h2 => (intro y hSu; (try dsimp only at hSu); go_simp; first | done | with_reducible rfl)
      (try simp only [Act.put, List.setIfInBounds_toArray, List.set_cons_zero, List.set_cons_succ])
      refine takeL (i := 3) (v := ?t8v3) (some 137) rfl rfl (by kernel_rfl) (by kernel_rfl) (by kernel_rfl) (by kernel_rfl) (by kernel_rfl) (fun _ _ _ h => h) (Or.inl ⟨by rfl, ?t8h3⟩) (by assumption) ?t8r3
      case t8h3 => (intro y hSu; (try dsimp only at hSu); go_simp; first | done | with_reducible rfl)
      (try simp only [Act.put, List.setIfInBounds_toArray, List.set_cons_zero, List.set_cons_succ])
      refine takeL (i := 4) (v := ?t8v4) (some 138) rfl rfl (by kernel_rfl) (by kernel_rfl) (by kernel_rfl) (by kernel_rfl) (by kernel_rfl) (fun _ _ _ h => h) (Or.inl ⟨by rfl, ?t8h4⟩) (by assumption) ?t8r4
      case t8h4 => (intro y hSu; (try dsimp only at hSu); go_simp; first | done | with_reducible rfl)
      (try simp only [Act.put, List.setIfInBounds_toArray, List.set_cons_zero, List.set_cons_succ])
      refine takeL (i := 9) (v := ?t8v9) (some 143) rfl rfl (by kernel_rfl) (by kernel_rfl) (by kernel_rfl) (by kernel_rfl) (by kernel_rfl) (fun _ _ _ h => h) (Or.inl ⟨by rfl, ?t8h9⟩) (by assumption) ?t8r9
      case t8h9 => (intro y hSu; (try dsimp only at hSu); go_simp; first | done | with_reducible rfl)
      (try simp only [Act.put, List.setIfInBounds_toArray, List.set_cons_zero, List.set_cons_succ])
      refine takeL (i := 10) (v := ?t8v10) (some 144) rfl rfl (by kernel_rfl) (by kernel_rfl) (by kernel_rfl) (by kernel_rfl) (by kernel_rfl) (fun _ _ _ h => h) (Or.inl ⟨by rfl, ?t8h10⟩) (by assumption) ?t8r10
      case t8h10 => (intro y hSu; (try dsimp only at hSu); go_simp; first | done | with_reducible rfl)
      (try simp only [Act.put, List.setIfInBounds_toArray, List.set_cons_zero, List.set_cons_succ])
      refine takeL (i := 11) (v := ?t8v11) (some 145) rfl rfl (by kernel_rfl) (by kernel_rfl) (by kernel_rfl) (by kernel_rfl) (by kernel_rfl) (fun _ _ _ h => h) (Or.inl ⟨by rfl, ?t8h11⟩) (by assumption) ?t8r11
      case t8h11 => (intro y hSu; (try dsimp only at hSu); go_simp; first | done | with_reducible rfl)
      (try simp only [Act.put, List.setIfInBounds_toArray, List.set_cons_zero, List.set_cons_succ])
      refine takeL (i := 12) (v := ?t8v12) (some 146) rfl rfl (by kernel_rfl) (by kernel_rfl) (by kernel_rfl) (by kernel_rfl) (by kernel_rfl) (fun _ _ _ h => h) (Or.inl ⟨by rfl, ?t8h12⟩) (by assumption) ?t8r12
      case t8h12 => (intro y hSu; (try dsimp only at hSu); go_simp; first | done | with_reducible rfl)
      (try simp only [Act.put, List.setIfInBounds_toArray, List.set_cons_zero, List.set_cons_succ])
      refine takeL (i := 13) (v := ?t8v13) (some 147) rfl rfl (by kernel_rfl) (by kernel_rfl) (by kernel_rfl) (by kernel_rfl) (by kernel_rfl) (fun _ _ _ h => h) (Or.inl ⟨by rfl, ?t8h13⟩) (by assumption) ?t8r13
      case t8h13 => (intro y hSu; (try dsimp only at hSu); go_simp; first | done | with_reducible rfl)
      (try simp only [Act.put, List.setIfInBounds_toArray, List.set_cons_zero, List.set_cons_succ])
      refine takeL (i := 14) (v := ?t8v14) (some 148) rfl rfl (by kernel_rfl) (by kernel_rfl) (by kernel_rfl) (by kernel_rfl) (by kernel_rfl) (fun _ _ _ h => h) (Or.inl ⟨by rfl, ?t8h14⟩) (by assumption) ?t8r14
      case t8h14 => (intro y hSu; (try dsimp only at hSu); go_simp; first | done | with_reducible rfl)
      (try simp only [Act.put, List.setIfInBounds_toArray, List.set_cons_zero, List.set_cons_succ])
      refine readyL (i := 5) (by kernel_rfl) rfl (fun K hK => ?_)
      go_simp
      refine (unhide A2 wd2 (unhide HBD)).mono ?_
      rintro e13 w13 ⟨rfl, hb13⟩
      have HB13 : Hid (Below w7.heap.size w7 w13) := (unhide HBD).trans ((unhide hb13).mono (unhide HBD).size)
      have hS13 := unhide HK3 w13 (unhide HB13)
      clear hb13 hS A2
      refine hK.out _ _ (fun _ => hS13) ?_
      clear hK K
      (try simp only [Act.put, List.setIfInBounds_toArray, List.set_cons_zero, List.set_cons_succ])
      have hH10 := hS13
      refine takeL (i := 6) (v := ?t11v6) (some 140) rfl rfl (by kernel_rfl) (by kernel_rfl) (by kernel_rfl) (by kernel_rfl) (by kernel_rfl) (fun _ _ _ h => h) (Or.inl ⟨by rfl, ?t11h6⟩) (by assumption) ?t11r6
      case t11h6 => (intro y hSu; (try dsimp only at hSu); go_simp; first | done | with_reducible rfl)
      (try simp only [Act.put, List.setIfInBounds_toArray, List.set_cons_zero, List.set_cons_succ])
      refine takeL (i := 7) (v := ?t11v7) (some 141) rfl rfl (by kernel_rfl) (by kernel_rfl) (by kernel_rfl) (by kernel_rfl) (by kernel_rfl) (fun _ _ _ h => h) (Or.inl ⟨by rfl, ?t11h7⟩) (by assumption) ?t11r7
      case t11h7 => (intro y hSu; (try dsimp only at hSu); go_simp; first | done | with_reducible rfl)
      (try simp only [Act.put, List.setIfInBounds_toArray, List.set_cons_zero, List.set_cons_succ])
      refine takeL (i := 8) (v := ?t11v8) (some 142) rfl rfl (by kernel_rfl) (by kernel_rfl) (by kernel_rfl) (by kernel_rfl) (by kernel_rfl) (fun _ _ _ h => h) (Or.inl ⟨by rfl, ?t11h8⟩) (by assumption) ?t11r8
      case t11h8 => (intro y hSu; (try dsimp only at hSu); go_simp; first | done | with_reducible rfl)
      (try simp only [Act.put, List.setIfInBounds_toArray, List.set_cons_zero, List.set_cons_succ])
      refine takeL (i := 15) (v := ?t11v15) (some 149) rfl rfl (by kernel_rfl) (by kernel_rfl) (by kernel_rfl) (by kernel_rfl) (by kernel_rfl) (fun _ _ _ h => h) (Or.inl ⟨by rfl, ?t11h15⟩) (by assumption) ?t11r15
      case t11h15 => (intro y hSu; (try dsimp only at hSu); go_simp; first | done | with_reducible rfl)
      (try simp only [Act.put, List.setIfInBounds_toArray, List.set_cons_zero, List.set_cons_succ])
      refine takeL (i := 16) (v := ?t11v16) (some 18) rfl rfl (by kernel_rfl) (by kernel_rfl) (by kernel_rfl) (by kernel_rfl) (by kernel_rfl) (fun _ _ _ h => h) (Or.inl ⟨by rfl, ?t11h16⟩) (by assumption) ?t11r16
      case t11h16 => (intro y hSu; (try dsimp only at hSu); go_simp; first | done | with_reducible rfl)
      (try simp only [Act.put, List.setIfInBounds_toArray, List.set_cons_zero, List.set_cons_succ])
      refine doneL (by kernel_rfl) ?_ _
      refine NoPanic.normal ?_
      clear hS13 HK3 HBD HB11
      repeat ((fail_if_success (with_reducible change Code.wp _ (Code.seq (Code.region 29 _ _) _) _ _ _)); go_step)
      refine bnd29 _ _ _ _ _ _ _ _ _ _ _ _ _ _ _ _ _ _ _ _ _ _ _ _ _ _ _ _ _ _ _ _ _ _ _ _ _ _ _ _ _ _ _ _ _ _ _ _ _ _ _ _ _ _ _ _ _ _ _ _ _ _ _ _ _ _ _ _ _ _ _ _ _ _ _ _ _ _ _ _ _ _ _ _ _ _ _ _ _ _ _ _ _ _ _ _ _ _ _ _ _ _ _ _ _ _ _ _ _ _ _ _ _ _ _ _ _ _ _ _ _ _ _ _ _ _ _ _ _ _ _ _ _ _ _ _ _ _ _ _ _ _ _ _ _ _ _ _ _ _ _ _ _ _ _ _ _ _ _ _ _ _ _ _ _ _ _ _ _ _ _ _ _ _ _ _ _ _ CT (by omega) (by omega) (fun z => by cases z) (fun _ z => unhide HQ3 z) HB13 ?_
      rintro y20 y150 y151 y152 y153 y154 y155 y156 y157 y158 y159 y160 y161 y162 y163 y164 y165 y166 y167 y168 y169 y170 y171 y172 y173 y174 y175 y176 y177 y178 y179 y180 y181 wz hbz
      exact unhide HQ _ _ _ _ _ _ _ _ _ _ _ _ _ _ _ _ _ _ _ _ _ _ _ _ _ _ _ _ _ _ _ _ _ _ _ _ _ _ _ _ _ _ _ _ _ _ _ _ _ _ _ _ _ _ _ _ _ _ _ _ _ _ hbz
end Go.Proofs.Ytbmcibofecigeaa
