/- LiveBounded from region 16 on (made by mkbnd2.py). -/
import Derived.Test.YtbmcibofecigeaaBdB14
namespace Go.Proofs.Ytbmcibofecigeaa
open Go.RowKit Go.Maps
set_option maxHeartbeats 16000000 in
set_option maxRecDepth 100000 in
theorem bnd16 [Inhabited EntF] {w7 w8 : World} {s : Int} {p gb ob hb : Nat} {lb : Bool} {en en' nt : Nat} {k e u v n wr0 wr' : Int} {va va' ea ea' : Option Addr} {vn' vc vc' ec ec' : Nat} {vs' : List Int} {gs gs' : List EdV} {T T' : L14.Tr} (a1 a2 a3 a4 a7 a9 a12 a13 a14 a15 a16 a17 a18 a19 a20 a21 a22 a23 a24 a25 a26 a27 a28 a29 a30 a31 a32 a33 a34 a35 a36 a37 a38 a39 a40 a41 a42 a43 a44 a45 a46 a47 a48 a49 a50 a51 a52 a53 a54 a55 a56 a57 a58 a59 a60 a61 a62 a63 a64 a65 a66 a67 a68 a69 a70 a71 a72 a73 a74 a75 a76 a77 a78 a79 a80 a81 a82 a83 a84 a85 a86 a87 a88 a89 a90 a91 a92 a93 a94 a95 a96 a97 a98 a99 a100 a101 a102 a103 a104 a105 a106 a107 a108 a109 a110 a111 a112 a113 a114 a115 a116 a117 a118 a119 a120 a121 a122 a123 a124 a125 a126 a127 a128 a129 a130 a131 a132 a133 a134 a135 a136 a137 a138 a139 a140 a141 a142 a143 a144 a145 a146 a147 a148 a149 a150 a151 a152 a153 a154 a155 a156 a157 a158 a159 a160 a161 a162 a163 a164 a165 a166 a167 a168 a169 a170 a171 a172 a173 a174 a175 a176 a177 a178 a179 a180 a181 : Value) (Q : Exit → Act → World → Prop)
    (HAW : Hid (∀ W, Below w7.heap.size w7 W → AtK ob hb gb k e u v n (.slice va vn' vc) (.slice ea en ec) wr0 vs' gs (.slice va' vn' vc') (.slice ea' en' ec') wr' vs' gs' W))
    (CT : Hid (∀ W, Below w7.heap.size w7 W → Calls Try.prog 6 #[.pointer (some ⟨p, 0, none⟩)] W fun e w' => e = .returned (.int .i64 nt) ∧ w' = W))
    (HLS7 : Hid (Lst vs' gs s (farAt (dsL vs' T)) (bitsAt (dsL vs' T)) ∧ Lst vs' gs' s (farAt (dsL vs' T')) (bitsAt (dsL vs' T')) ∧ (gs.map (·.1)).Nodup ∧ (gs'.map (·.1)).Nodup ∧ gs.length ≤ 1000 ∧ gs'.length ≤ 1000 ∧ vs'.length ≤ 1000))
    (HLN : Hid (vn' = vs'.length ∧ en = gs.length)) (HLN2 : Hid (vn' = vs'.length ∧ en' = gs'.length)) (HLB : Hid (lb = lastB T vs' e))
    (HCS : Hid (k = 3 ∧ (0 < nt → chB T T' vs' vs'.length = true) ∨ k = 4 ∧ (0 < nt → ∃ v, v ∈ vs' ∧ L14.lst T v = e ∧ e ≠ 0) ∨ k = 5 ∧ ∃ (i : Nat) (u v : Int) (c c2 : Nat), gs[i]? = some (e, u, v, ((c : Nat) : Int)) ∧ gs'[i]? = some (e, u, v, ((c2 : Nat) : Int)) ∧ (c < c2 ∧ (0 < nt → ∃ v, v ∈ vs' ∧ L14.lst T v = e ∧ e ≠ 0) ∨ ¬c < c2 ∧ (0 < nt → chB T T' vs' vs'.length = true)))) (HM : Hid (nt ≤ mostB T T' vs' vs'.length)) (HB8 : Hid (Below w7.heap.size w7 w8))
    (HQ : Hid (∀ (b13 b14 b15 b16 b17 b18 b19 b20 b86 b87 b88 b89 b90 b91 b92 b93 b94 b95 b96 b97 b98 b99 b100 b101 b102 b103 b104 b105 b106 b107 b108 b109 b110 b111 b112 b113 b114 b115 b116 b117 b118 b119 b120 b121 b122 b123 b124 b125 b126 b127 b128 b129 b130 b131 b132 b133 b134 b135 b136 b137 b138 b139 b140 b141 b142 b143 b144 b145 b146 b147 b148 b149 b150 b151 b152 b153 b154 b155 b156 b157 b158 b159 b160 b161 b162 b163 b164 b165 b166 b167 b168 b169 b170 b171 b172 b173 b174 b175 b176 b177 b178 b179 b180 b181 : Value) (wz : World), Below w7.heap.size w7 wz → Q .normal ⟨#[.int .i64 s, a1, a2, a3, a4, .pointer (some ⟨p, 0, none⟩), .pointer (some ⟨gb, 0, none⟩), a7, .pointer (some ⟨ob, 0, none⟩), a9, .pointer (some ⟨hb, 0, none⟩), .bool lb, a12, b13, b14, b15, b16, b17, b18, b19, b20, a21, a22, a23, a24, a25, a26, a27, a28, a29, a30, a31, a32, a33, a34, a35, a36, a37, a38, a39, a40, a41, a42, a43, a44, a45, a46, a47, a48, a49, a50, a51, a52, a53, a54, a55, a56, a57, a58, a59, a60, a61, a62, a63, a64, a65, a66, a67, a68, a69, a70, a71, a72, a73, a74, a75, a76, a77, a78, a79, a80, a81, a82, a83, a84, a85, b86, b87, b88, b89, b90, b91, b92, b93, b94, b95, b96, b97, b98, b99, b100, b101, b102, b103, b104, b105, b106, b107, b108, b109, b110, b111, b112, b113, b114, b115, b116, b117, b118, b119, b120, b121, b122, b123, b124, b125, b126, b127, b128, b129, b130, b131, b132, b133, b134, b135, b136, b137, b138, b139, b140, b141, b142, b143, b144, b145, b146, b147, b148, b149, b150, b151, b152, b153, b154, b155, b156, b157, b158, b159, b160, b161, b162, b163, b164, b165, b166, b167, b168, b169, b170, b171, b172, b173, b174, b175, b176, b177, b178, b179, b180, b181], []⟩ wz)) :
    Code.wp Try.prog ((Try.f3.body.bind (fromRegion 16)).getD .skip) Q ⟨#[.int .i64 s, a1, a2, a3, a4, .pointer (some ⟨p, 0, none⟩), .pointer (some ⟨gb, 0, none⟩), a7, .pointer (some ⟨ob, 0, none⟩), a9, .pointer (some ⟨hb, 0, none⟩), .bool lb, a12, a13, a14, a15, a16, a17, a18, a19, a20, a21, a22, a23, a24, a25, a26, a27, a28, a29, a30, a31, a32, a33, a34, a35, a36, a37, a38, a39, a40, a41, a42, a43, a44, a45, a46, a47, a48, a49, a50, a51, a52, a53, a54, a55, a56, a57, a58, a59, a60, a61, a62, a63, a64, a65, a66, a67, a68, a69, a70, a71, a72, a73, a74, a75, a76, a77, a78, a79, a80, a81, a82, a83, a84, a85, a86, a87, a88, a89, a90, a91, a92, a93, a94, a95, a96, a97, a98, a99, a100, a101, a102, a103, a104, a105, a106, a107, a108, a109, a110, a111, a112, a113, a114, a115, a116, a117, a118, a119, a120, a121, a122, a123, a124, a125, a126, a127, a128, a129, a130, a131, a132, a133, a134, a135, a136, a137, a138, a139, a140, a141, a142, a143, a144, a145, a146, a147, a148, a149, a150, a151, a152, a153, a154, a155, a156, a157, a158, a159, a160, a161, a162, a163, a164, a165, a166, a167, a168, a169, a170, a171, a172, a173, a174, a175, a176, a177, a178, a179, a180, a181], []⟩ w8 := by
  conv => arg 2; whnf
  obtain ⟨⟨d0, d1, d2, d3, d4⟩, -⟩ := cellsOpF (unhide HAW w8 (unhide HB8)).op
  obtain ⟨c0, c1, c2, c3, -⟩ := cellsG (unhide HAW w8 (unhide HB8)).new
  obtain ⟨o0, o1, o2, o3, -⟩ := cellsG (unhide HAW w8 (unhide HB8)).old
  go_upto_region 16 with fail
  have hK2 : ∀ W, Below w8.heap.size w8 W → ((W.cell? ⟨hb, 0, none⟩ = some (.slice va vn' vc) ∧ W.cell? ⟨hb, 1, none⟩ = some (.slice ea en ec) ∧ W.cell? ⟨hb, 2, none⟩ = some (.int .i64 0) ∧ W.cell? ⟨hb, 3, none⟩ = some (.int .i64 wr0)) ∧ W.cell? ⟨gb, 0, none⟩ = some (.slice va' vn' vc') ∧ W.cell? ⟨gb, 1, none⟩ = some (.slice ea' en' ec') ∧ W.cell? ⟨gb, 2, none⟩ = some (.int .i64 0) ∧ W.cell? ⟨gb, 3, none⟩ = some (.int .i64 wr')) := fun W hW => by
    have hA := unhide HAW W ((unhide HB8).trans (hW.mono (unhide HB8).size))
    obtain ⟨x0, x1, x2, x3, -⟩ := cellsG hA.old
    obtain ⟨y0, y1, y2, y3, -⟩ := cellsG hA.new
    exact ⟨⟨x0, x1, x2, x3⟩, y0, y1, y2, y3⟩
  have hS0 := hK2 w8.drew (below_drewN (Below.refl _ _) 1)
  obtain ⟨wd, hwd⟩ : ∃ wd, wd = w8.drew := ⟨_, rfl⟩
  have HBD : Hid (Below w8.heap.size w8 wd) := by rw [hwd]; exact below_drewN (Below.refl _ _) 1
  have HWD := hide hwd
  have hS := hK2 wd (unhide HBD)
  have HK2 := hide hK2
  have D1 : Hid (∀ W, Below w8.heap.size w8 W → Calls Try.prog 10 #[.agg #[.slice va vn' vc, .slice ea en ec, .int .i64 0, .int .i64 wr0], .int .i64 s] W fun e w' => Hid (RDAns W (refD vs'.length (farAt (dsL vs' T)) (bitsAt (dsL vs' T))) e w')) := fun W hW => by
    have hA := unhide HAW W ((unhide HB8).trans (hW.mono (unhide HB8).size))
    exact distsR hA.v1 hA.e1 (unhide HLS7).1
  have D2 : Hid (∀ W, Below w8.heap.size w8 W → Calls Try.prog 10 #[.agg #[.slice va' vn' vc', .slice ea' en' ec', .int .i64 0, .int .i64 wr'], .int .i64 s] W fun e w' => Hid (RDAns W (refD vs'.length (farAt (dsL vs' T')) (bitsAt (dsL vs' T'))) e w')) := fun W hW => by
    have hA := unhide HAW W ((unhide HB8).trans (hW.mono (unhide HB8).size))
    exact distsR hA.v2 hA.e2 (unhide HLS7).2.1
  clear c0 c1 c2 c3 d0 d1 d2 d3 d4 o0 o1 o2 o3 hK2 hwd
  refine wp_region_noPanic ?_
  refine regionL [] (fun y => ((y.cell? ⟨hb, 0, none⟩ = some (.slice va vn' vc) ∧ y.cell? ⟨hb, 1, none⟩ = some (.slice ea en ec) ∧ y.cell? ⟨hb, 2, none⟩ = some (.int .i64 0) ∧ y.cell? ⟨hb, 3, none⟩ = some (.int .i64 wr0)) ∧ y.cell? ⟨gb, 0, none⟩ = some (.slice va' vn' vc') ∧ y.cell? ⟨gb, 1, none⟩ = some (.slice ea' en' ec') ∧ y.cell? ⟨gb, 2, none⟩ = some (.int .i64 0) ∧ y.cell? ⟨gb, 3, none⟩ = some (.int .i64 wr'))) (by kernel_rfl) hS0 (fun hHeld => ?_)
  rw [← unhide HWD]
  clear HWD hS0
  refine takeL (i := 0) (v := ?t2v0) (some 86) rfl rfl (by kernel_rfl) (by kernel_rfl) (by kernel_rfl) (by kernel_rfl) (by kernel_rfl) (fun _ _ _ h => h) (Or.inl ⟨by rfl, ?t2h0⟩) (by assumption) ?t2r0
  case t2h0 => (intro y hSu; (try dsimp only at hSu); go_simp; first | done | with_reducible rfl)
  (try simp only [Act.put, List.setIfInBounds_toArray, List.set_cons_zero, List.set_cons_succ])
  refine takeL (i := 1) (v := ?t2v1) (some 87) rfl rfl (by kernel_rfl) (by kernel_rfl) (by kernel_rfl) (by kernel_rfl) (by kernel_rfl) (fun _ _ _ h => h) (Or.inl ⟨by rfl, ?t2h1⟩) (by assumption) ?t2r1
  case t2h1 => (intro y hSu; (try dsimp only at hSu); go_simp; first | done | with_reducible rfl)
  (try simp only [Act.put, List.setIfInBounds_toArray, List.set_cons_zero, List.set_cons_succ])
  refine takeL (i := 3) (v := ?t2v3) (some 89) rfl rfl (by kernel_rfl) (by kernel_rfl) (by kernel_rfl) (by kernel_rfl) (by kernel_rfl) (fun _ _ _ h => h) (Or.inl ⟨by rfl, ?t2h3⟩) (by assumption) ?t2r3
  case t2h3 => (intro y hSu; (try dsimp only at hSu); go_simp; first | done | with_reducible rfl)
  (try simp only [Act.put, List.setIfInBounds_toArray, List.set_cons_zero, List.set_cons_succ])
  refine takeL (i := 4) (v := ?t2v4) (some 90) rfl rfl (by kernel_rfl) (by kernel_rfl) (by kernel_rfl) (by kernel_rfl) (by kernel_rfl) (fun _ _ _ h => h) (Or.inl ⟨by rfl, ?t2h4⟩) (by assumption) ?t2r4
  case t2h4 => (intro y hSu; (try dsimp only at hSu); go_simp; first | done | with_reducible rfl)
  (try simp only [Act.put, List.setIfInBounds_toArray, List.set_cons_zero, List.set_cons_succ])
  refine readyL (i := 2) (by kernel_rfl) rfl (fun K hK => ?_)
  go_simp
  refine (unhide D1 wd (unhide HBD)).mono ?_
  intro e9 w9 H9
  obtain ⟨ga, na, rfl, a1, a2, a3⟩ := unhide H9
  obtain rfl : na = vn' := by rw [a1, refD_len]; exact (unhide HLN2).1.symm
  have HB9 : Hid (Below w8.heap.size w8 w9) := (unhide HBD).trans (a3.mono (unhide HBD).size)
  have hS9 := unhide HK2 w9 (unhide HB9)
  have HA2 := hide a2
  clear H9 a1 a2 a3 hS D1
  refine hK.out _ _ (fun _ => hS9) ?_
  clear hK K
  (try simp only [Act.put, List.setIfInBounds_toArray, List.set_cons_zero, List.set_cons_succ])
  have hH4 := hS9
  refine readyL (i := 5) (by kernel_rfl) rfl (fun K hK => ?_)
  go_simp
  refine (unhide D2 w9 (unhide HB9)).mono ?_
  intro e10 w10 H10
  obtain ⟨gc, nc, rfl, a1, a2, a3⟩ := unhide H10
  obtain rfl : nc = na := by rw [a1, refD_len]; exact (unhide HLN2).1.symm
  have HB10 : Hid (Below w8.heap.size w8 w10) := (unhide HB9).trans (a3.mono (unhide HB9).size)
  have hS10 := unhide HK2 w10 (unhide HB10)
  have HU : Hid (∀ W, Below w10.heap.size w10 W → ∀ (j : Nat) (v : Int), vs'[j]? = some v → W.cell? ⟨ga, j, none⟩ = some (.int .u32 (kL T v : Nat)) ∧ W.cell? ⟨gc, j, none⟩ = some (.int .u32 (kL T' v : Nat))) := fun W hW j v hv => ⟨urow_at (rrow_below (rrow_below (unhide HA2) a3) hW) (refD_at hv), urow_at (rrow_below a2 hW) (refD_at hv)⟩
  clear H10 a1 a2 a3 D2 HA2 hS9
  refine hK.out _ _ (fun _ => hS10) ?_
  clear hK K
  (try simp only [Act.put, List.setIfInBounds_toArray, List.set_cons_zero, List.set_cons_succ])
  have hH6 := hS10
  refine takeL (i := 6) (v := ?t7v6) (some 13) rfl rfl (by kernel_rfl) (by kernel_rfl) (by kernel_rfl) (by kernel_rfl) (by kernel_rfl) (fun _ _ _ h => h) (Or.inl ⟨by rfl, ?t7h6⟩) (by assumption) ?t7r6
  case t7h6 => (intro y hSu; (try dsimp only at hSu); go_simp; first | done | with_reducible rfl)
  (try simp only [Act.put, List.setIfInBounds_toArray, List.set_cons_zero, List.set_cons_succ])
  refine takeL (i := 7) (v := ?t7v7) (some 14) rfl rfl (by kernel_rfl) (by kernel_rfl) (by kernel_rfl) (by kernel_rfl) (by kernel_rfl) (fun _ _ _ h => h) (Or.inl ⟨by rfl, ?t7h7⟩) (by assumption) ?t7r7
  case t7h7 => (intro y hSu; (try dsimp only at hSu); go_simp; first | done | with_reducible rfl)
  (try simp only [Act.put, List.setIfInBounds_toArray, List.set_cons_zero, List.set_cons_succ])
  refine doneL (by kernel_rfl) ?_ _
  refine NoPanic.normal ?_
  clear hS10 HB9 HBD
  have HBW : Hid (∀ W, Below w10.heap.size w10 W → Below w7.heap.size w7 W) := fun W hW => by
    have h1 := (unhide HB10).trans (hW.mono (unhide HB10).size)
    exact (unhide HB8).trans (h1.mono (unhide HB8).size)
  clear HB8 HB10 HK2
  go_upto_region 18 with fail
  have hm0 : mostB T T' vs' 0 = 0 := rfl
  have hc0 : chB T T' vs' 0 = false := rfl
  go_wp2_with fail
  go_loopw [94, 15, 16] (fun s94 s15 s16 W => ∃ (j : Nat) (m : Nat) (cb : Bool), s94 = .int .i64 j ∧ s15 = .int .i64 m ∧ s16 = .bool cb ∧ Hid (j ≤ nc ∧ m = mostB T T' vs' j ∧ cb = chB T T' vs' j ∧ Below w10.heap.size w10 W)) (fun s94 _ _ _ => nc - (intOf s94).toNat)
  case atStart => exact ⟨0, 0, false, rfl, rfl, rfl, Nat.zero_le _, hm0.symm, hc0.symm, Below.refl _ _⟩
  case round =>
    clear hm0 hc0
    obtain ⟨j, m, cb, rfl, rfl, rfl, HJ⟩ := hrel
    obtain ⟨j1, j2, j3, j4⟩ := unhide HJ
    by_cases hjl : j < nc
    · obtain ⟨x, hx⟩ : ∃ x, vs'[j]? = some x := ⟨_, List.getElem?_eq_getElem (by have := (unhide HLN2).1; omega)⟩
      obtain ⟨k0, k1⟩ := unhide HU wr j4 j x hx
      obtain ⟨jn, hjn⟩ : ∃ jn, jn = j + 1 := ⟨_, rfl⟩
      obtain ⟨mn, hmn⟩ : ∃ mn, mn = m + 1 := ⟨_, rfl⟩
      have hst := chB_step (T := T) (T' := T') hx
      rw [← hjn, ← j3] at hst
      have hml : m ≤ 1000 := by have := mostB_le (T := T) (T' := T') (vs := vs') (i := j); have := (unhide HLS7).2.2.2.2.2.2; have := (unhide HLN2).1; omega
      have z1 : (j : Int) < (nc : Int) := by omega
      have zj : Hid (wrap64 ((j : Int) + 1) = (jn : Int)) := by show wrap64 ((j : Int) + 1) = (jn : Int); have := (unhide HLS7).2.2.2.2.2.2; have := (unhide HLN2).1; unfold wrap64; omega
      have zm : Hid (wrap64 ((m : Int) + 1) = (mn : Int)) := by show wrap64 ((m : Int) + 1) = (mn : Int); unfold wrap64; omega
      have hmore := fun q => mostB_yes (T := T) (T' := T') hx q
      have hsame := fun q1 q2 => mostB_no (T := T) (T' := T') hx q1 q2
      rw [← hjn, ← j2, ← hmn] at hmore
      rw [← hjn, ← j2] at hsame
      have HJ0 : Hid (jn = j + 1 ∧ nc - jn < nc - j ∧ jn ≤ nc ∧ Below w10.heap.size w10 wr) := ⟨hjn, by omega, by omega, j4⟩
      generalize kL T x = kx at *
      generalize kL T' x = ky at *
      obtain ⟨bq, hbq⟩ : ∃ bq : Bool, bq = ((kx : Int) == (ky : Int)) := ⟨_, rfl⟩
      have hne : decide (kx ≠ ky) = !bq := by
        rw [hbq]
        by_cases q : kx = ky
        · simp [q]
        · have q2 : ¬ ((kx : Int) = (ky : Int)) := by omega
          simp [q, q2]
      rw [hne] at hst
      have zb : ((kx : Int) == (ky : Int)) = bq := hbq.symm
      clear hne hbq HJ j1 j2 j3 j4 hjl hx hjn hmn hml HU CT HQ
      by_cases hkx : kx = 4294967295
      · by_cases hky : ky = 4294967295
        · have HM2 := hide (hsame hkx hky)
          subst hkx hky
          obtain rfl : bq = true := by rw [← zb]; rfl
          have HC2 := hide hst
          clear hmore hsame hst zb
          cases cb with
          | true =>
            go_upto_region 23 with fail
            go_quiet (fail)
            go_wp2_with fail
            (try rw [unhide zj])
            (try rw [unhide zm])
            exact ⟨⟨jn, m, _, by first | rfl | (rw [(unhide HJ0).1]; rfl), rfl, rfl, (unhide HJ0).2.2.1, (unhide HM2).symm, by first | exact (unhide HC2).symm | (rw [unhide HC2, ← zb]; first | rfl | simp), below_drewN (unhide HJ0).2.2.2 _⟩, by have := unhide HJ0; simp [intOf]; omega⟩
          | false =>
            go_upto_region 23 with fail
            go_quiet (fail)
            go_wp2_with fail
            (try rw [unhide zj])
            (try rw [unhide zm])
            exact ⟨⟨jn, m, _, by first | rfl | (rw [(unhide HJ0).1]; rfl), rfl, rfl, (unhide HJ0).2.2.1, (unhide HM2).symm, by first | exact (unhide HC2).symm | (rw [unhide HC2, ← zb]; first | rfl | simp), below_drewN (unhide HJ0).2.2.2 _⟩, by have := unhide HJ0; simp [intOf]; omega⟩
        · have HM2 := hide (hmore (.inr hky))
          have HC2 := hide hst
          subst hkx
          have zy : ((ky : Int) == 4294967295) = false := by simp; omega
          clear hmore hsame hst hky
          cases cb with
          | true =>
            go_upto_region 23 with fail
            go_quiet (fail)
            go_wp2_with fail
            (try rw [unhide zj])
            (try rw [unhide zm])
            exact ⟨⟨jn, mn, _, by first | rfl | (rw [(unhide HJ0).1]; rfl), rfl, rfl, (unhide HJ0).2.2.1, (unhide HM2).symm, by first | exact (unhide HC2).symm | (rw [unhide HC2, ← zb]; first | rfl | simp), below_drewN (unhide HJ0).2.2.2 _⟩, by have := unhide HJ0; simp [intOf]; omega⟩
          | false =>
            go_upto_region 23 with fail
            go_quiet (fail)
            go_wp2_with fail
            (try rw [unhide zj])
            (try rw [unhide zm])
            exact ⟨⟨jn, mn, _, by first | rfl | (rw [(unhide HJ0).1]; rfl), rfl, rfl, (unhide HJ0).2.2.1, (unhide HM2).symm, by first | exact (unhide HC2).symm | (rw [unhide HC2, ← zb]; first | rfl | simp), below_drewN (unhide HJ0).2.2.2 _⟩, by have := unhide HJ0; simp [intOf]; omega⟩
      · have HM2 := hide (hmore (.inl hkx))
        have HC2 := hide hst
        have zx : ((kx : Int) == 4294967295) = false := by simp; omega
        clear hmore hsame hst hkx
        cases cb with
        | true =>
          go_upto_region 23 with fail
          go_quiet (fail)
          go_wp2_with fail
          (try rw [unhide zj])
          (try rw [unhide zm])
          exact ⟨⟨jn, mn, _, by first | rfl | (rw [(unhide HJ0).1]; rfl), rfl, rfl, (unhide HJ0).2.2.1, (unhide HM2).symm, by first | exact (unhide HC2).symm | (rw [unhide HC2, ← zb]; first | rfl | simp), below_drewN (unhide HJ0).2.2.2 _⟩, by have := unhide HJ0; simp [intOf]; omega⟩
        | false =>
          go_upto_region 23 with fail
          go_quiet (fail)
          go_wp2_with fail
          (try rw [unhide zj])
          (try rw [unhide zm])
          exact ⟨⟨jn, mn, _, by first | rfl | (rw [(unhide HJ0).1]; rfl), rfl, rfl, (unhide HJ0).2.2.1, (unhide HM2).symm, by first | exact (unhide HC2).symm | (rw [unhide HC2, ← zb]; first | rfl | simp), below_drewN (unhide HJ0).2.2.2 _⟩, by have := unhide HJ0; simp [intOf]; omega⟩
    · obtain rfl : j = nc := by omega
      have z1 : ¬ (j : Int) < (j : Int) := by omega
      have HBL : Hid (Below w7.heap.size w7 wr) := unhide HBW wr j4
      have HMM : Hid (nt ≤ m) := by rw [j2, (unhide HLN2).1]; exact unhide HM
      have HCC : Hid (cb = chB T T' vs' vs'.length) := by
        show cb = _
        rw [j3, (unhide HLN2).1]
      have r1 : ¬ (nt : Int) < 0 := by omega
      have r2 : ¬ (m : Int) < (nt : Int) := by have := unhide HMM; omega
      clear HJ j1 j2 j3 j4 hjl HU HM HMM
      repeat ((fail_if_success (with_reducible change Code.wp _ (Code.seq (Code.region 25 _ _) _) _ _ _)); go_step)
      refine bnd25 _ _ _ _ _ _ _ _ _ _ _ _ _ _ _ _ _ _ _ _ _ _ _ _ _ _ _ _ _ _ _ _ _ _ _ _ _ _ _ _ _ _ _ _ _ _ _ _ _ _ _ _ _ _ _ _ _ _ _ _ _ _ _ _ _ _ _ _ _ _ _ _ _ _ _ _ _ _ _ _ _ _ _ _ _ _ _ _ _ _ _ _ _ _ _ _ _ _ _ _ _ _ _ _ _ _ _ _ _ _ _ _ _ _ _ _ _ _ _ _ _ _ _ _ _ _ _ _ _ _ _ _ _ _ _ _ _ _ _ _ _ _ _ _ _ _ _ _ _ _ _ _ _ _ _ _ _ _ _ _ _ _ _ _ _ _ _ _ _ _ _ _ _ _ _ HAW CT HLS7 HLN HLN2 HLB HCS HCC r1 r2 HBL ?_
      rintro y18 y19 y20 y124 y125 y126 y127 y128 y129 y130 y131 y132 y133 y134 y135 y136 y137 y138 y139 y140 y141 y142 y143 y144 y145 y146 y147 y148 y149 y150 y151 y152 y153 y154 y155 y156 y157 y158 y159 y160 y161 y162 y163 y164 y165 y166 y167 y168 y169 y170 y171 y172 y173 y174 y175 y176 y177 y178 y179 y180 y181 wz hbz
      exact unhide HQ _ _ _ _ _ _ _ _ _ _ _ _ _ _ _ _ _ _ _ _ _ _ _ _ _ _ _ _ _ _ _ _ _ _ _ _ _ _ _ _ _ _ _ _ _ _ _ _ _ _ _ _ _ _ _ _ _ _ _ _ _ _ _ _ _ _ _ _ _ _ _ _ _ _ _ _ _ _ _ _ _ _ _ _ _ _ _ _ _ _ _ _ _ _ _ _ _ _ _ _ _ _ _ _ _ hbz
end Go.Proofs.Ytbmcibofecigeaa
