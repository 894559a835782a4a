/- What is asked behind each call. -/
import Derived.Test.YtdalghfhpekcfaaSwI
namespace Go.Proofs.Ytdalghfhpekcfaa
open Go.RowKit Go.Shelf
variable {w : World} {g5 g6 : Nat} {most : Int} {p : Nat → Nat} {rs : Nat → List (Int × Int)} {v : Nat → Value} {ds : Nat → List Deed} {G : Nat → Option Obj} {W : World} {ob b12 b13 k k' ps pt : Nat} {va va' wa : Option Addr} {nk vc nk' vc' rl wcp : Nat} {kd la ha x y : Int} {sc : Bool} {i : Nat}

set_option maxHeartbeats 8000000 in
set_option maxRecDepth 100000 in
theorem playTailI (a0 a1 a2 a3 a4 a7 a8 a11 a12 a13 a14 a15 a16 a17 a18 a20 a21 a22 a23 a24 a25 a26 a27 a28 a29 a30 a31 a32 a33 a34 a35 a36 a37 a38 a39 a40 a41 a42 a43 a44 a45 a46 a47 a48 a49 a50 a51 a52 a53 a54 a55 a56 a57 a58 a59 a60 a61 a62 a63 a64 a65 a66 a67 a68 a69 a70 a71 a72 a73 a74 a75 a76 a77 a78 a79 a80 a81 a82 a83 a84 a85 a86 a87 a88 a89 a90 a91 a92 a93 a94 a95 a96 a97 a98 a99 a100 a101 a102 a103 a104 a105 a106 a107 a108 a109 a110 a111 a112 a113 a114 a115 a116 a117 a118 a119 a120 a121 a122 a123 a124 a125 a126 a127 a128 a129 a130 a131 a132 a133 a134 a135 a136 a137 a138 a139 a140 a141 a142 a143 a144 a145 a146 a147 a148 a149 a150 a151 a152 a153 a154 a155 a156 a157 a158 a159 a160 a161 a162 a163 a164 a165 a166 a167 a168 a169 a170 a171 a172 a173 a174 a175 a176 a177 a178 a179 a180 a181 a182 a183 a184 a185 a186 a187 a188 a189 a190 a191 a192 a193 a194 a195 a196 a197 a198 a199 a200 a201 a202 a203 a204 a205 a206 a207 a208 a209 a210 a211 a212 a213 a214 a215 a216 a217 a218 a219 a220 a221 a222 a223 a224 a225 a226 a227 a228 a229 a230 a231 a232 a233 a234 a235 a236 a237 a238 a239 a240 a241 a242 a243 a244 a245 a246 a247 a248 a249 a250 a251 a252 a253 a254 a255 a256 a257 a258 a259 a260 a261 a262 a263 a264 a265 a266 a267 a268 a269 a270 a271 a272 a273 a274 a275 a276 a277 a278 a279 a280 a281 a282 a283 a284 a285 a286 a287 a288 a289 a290 a291 a292 a293 a294 a295 a296 a297 a298 a299 a300 a301 a302 a303 a304 a305 a306 a307 a308 a309 a310 a311 : Value) (Q : Exit → Act → World → Prop) (HS : Hid (AfterI w g5 g6 most k ps i W)) (HX : Hid (most = 9223372036854775807 ∧ i < 40)) (hk2 : k < 2) (hk2' : k' < 2) (hkw : IntKind.i64.wrap (1 - (k : Int)) = (k' : Int)) (HNE : Hid (k ≠ k'))
    (HQ : Hid (∀ (b264 b265 b266 b267 b268 b269 b270 b271 b272 b273 b274 b275 b276 b277 b278 b279 b280 b281 b282 b283 b284 b285 b286 b287 b288 b289 b290 b291 b292 b293 b294 b295 b296 b297 b298 b299 b300 b301 b302 b303 b304 b305 b306 b307 b308 b309 b310 b311 : Value) (wq : World), (∃ (p : Nat → Nat) (rs : Nat → List (Int × Int)) (v : Nat → Value) (ds : Nat → List Deed) (G : Nat → Option Obj), MemI w g5 g6 most p rs v ds G wq ∧ Fair most (i + 1) rs ds) → Q .normal ⟨#[a0, a1, a2, a3, a4, .slice (some ⟨g5, 0, none⟩) 2 2, .slice (some ⟨g6, 0, none⟩) 2 2, a7, a8, .int .i64 k, .pointer (some ⟨ps, 0, none⟩), a11, a12, a13, a14, a15, a16, a17, a18, .bool true, a20, a21, a22, a23, a24, a25, a26, a27, a28, a29, a30, a31, a32, a33, a34, a35, a36, a37, a38, a39, a40, a41, a42, a43, a44, a45, a46, a47, a48, a49, a50, a51, a52, a53, a54, a55, a56, a57, a58, a59, a60, a61, a62, a63, a64, a65, a66, a67, a68, a69, a70, a71, a72, a73, a74, a75, a76, a77, a78, a79, a80, a81, a82, a83, a84, a85, a86, a87, a88, a89, a90, a91, a92, a93, a94, a95, a96, a97, a98, a99, a100, a101, a102, a103, a104, a105, a106, a107, a108, a109, a110, a111, a112, a113, a114, a115, a116, a117, a118, a119, a120, a121, a122, a123, a124, a125, a126, a127, a128, a129, a130, a131, a132, a133, a134, a135, a136, a137, a138, a139, a140, a141, a142, a143, a144, a145, a146, a147, a148, a149, a150, a151, a152, a153, a154, a155, a156, a157, a158, a159, a160, a161, a162, a163, a164, a165, a166, a167, a168, a169, a170, a171, a172, a173, a174, a175, a176, a177, a178, a179, a180, a181, a182, a183, a184, a185, a186, a187, a188, a189, a190, a191, a192, a193, a194, a195, a196, a197, a198, a199, a200, a201, a202, a203, a204, a205, a206, a207, a208, a209, a210, a211, a212, a213, a214, a215, a216, a217, a218, a219, a220, a221, a222, a223, a224, a225, a226, a227, a228, a229, a230, a231, a232, a233, a234, a235, a236, a237, a238, a239, a240, a241, a242, a243, a244, a245, a246, a247, a248, a249, a250, a251, a252, a253, a254, a255, a256, a257, a258, a259, a260, a261, a262, a263, b264, b265, b266, b267, b268, b269, b270, b271, b272, b273, b274, b275, b276, b277, b278, b279, b280, b281, b282, b283, b284, b285, b286, b287, b288, b289, b290, b291, b292, b293, b294, b295, b296, b297, b298, b299, b300, b301, b302, b303, b304, b305, b306, b307, b308, b309, b310, b311], []⟩ wq)) :
    Code.wp Try.prog ((Try.f10.body.bind (atRegion 46)).getD .skip) Q ⟨#[a0, a1, a2, a3, a4, .slice (some ⟨g5, 0, none⟩) 2 2, .slice (some ⟨g6, 0, none⟩) 2 2, a7, a8, .int .i64 k, .pointer (some ⟨ps, 0, none⟩), a11, a12, a13, a14, a15, a16, a17, a18, .bool true, a20, a21, a22, a23, a24, a25, a26, a27, a28, a29, a30, a31, a32, a33, a34, a35, a36, a37, a38, a39, a40, a41, a42, a43, a44, a45, a46, a47, a48, a49, a50, a51, a52, a53, a54, a55, a56, a57, a58, a59, a60, a61, a62, a63, a64, a65, a66, a67, a68, a69, a70, a71, a72, a73, a74, a75, a76, a77, a78, a79, a80, a81, a82, a83, a84, a85, a86, a87, a88, a89, a90, a91, a92, a93, a94, a95, a96, a97, a98, a99, a100, a101, a102, a103, a104, a105, a106, a107, a108, a109, a110, a111, a112, a113, a114, a115, a116, a117, a118, a119, a120, a121, a122, a123, a124, a125, a126, a127, a128, a129, a130, a131, a132, a133, a134, a135, a136, a137, a138, a139, a140, a141, a142, a143, a144, a145, a146, a147, a148, a149, a150, a151, a152, a153, a154, a155, a156, a157, a158, a159, a160, a161, a162, a163, a164, a165, a166, a167, a168, a169, a170, a171, a172, a173, a174, a175, a176, a177, a178, a179, a180, a181, a182, a183, a184, a185, a186, a187, a188, a189, a190, a191, a192, a193, a194, a195, a196, a197, a198, a199, a200, a201, a202, a203, a204, a205, a206, a207, a208, a209, a210, a211, a212, a213, a214, a215, a216, a217, a218, a219, a220, a221, a222, a223, a224, a225, a226, a227, a228, a229, a230, a231, a232, a233, a234, a235, a236, a237, a238, a239, a240, a241, a242, a243, a244, a245, a246, a247, a248, a249, a250, a251, a252, a253, a254, a255, a256, a257, a258, a259, a260, a261, a262, a263, a264, a265, a266, a267, a268, a269, a270, a271, a272, a273, a274, a275, a276, a277, a278, a279, a280, a281, a282, a283, a284, a285, a286, a287, a288, a289, a290, a291, a292, a293, a294, a295, a296, a297, a298, a299, a300, a301, a302, a303, a304, a305, a306, a307, a308, a309, a310, a311], []⟩ W := by
  conv => arg 2; whnf
  obtain ⟨p, rs, v, ds, G, hM, hF, hpk⟩ := unhide HS
  obtain ⟨hmx, hi40⟩ := unhide HX
  have hne := unhide HNE
  obtain ⟨r0, ⟨r1, r2⟩, -, -⟩ := hM.cells hk2
  obtain ⟨t0, ⟨t1, t2⟩, -, -⟩ := hM.cells hk2'
  obtain ⟨va, vc, hv⟩ := (hM.rows k hk2).shape
  obtain ⟨va', vc', hv'⟩ := (hM.rows k' hk2').shape
  rw [hv] at r1
  rw [hv'] at t1
  generalize hnk : (ds k).length = nk at hv r1
  generalize hnk' : (ds k').length = nk' at hv' t1
  clear hnk hnk'
  rw [hpk] at r0
  obtain ⟨pt, hpt⟩ : ∃ pt, p k' = pt := ⟨_, rfl⟩
  rw [hpt] at t0
  have hap : pt ≠ ps := by
    have h1 := hM.apart
    have key : ∀ a b : Nat, a < 2 → b < 2 → a ≠ b → p b ≠ p a := fun a b ha hb hab => by
      rcases two_of ha with rfl | rfl <;> rcases two_of hb with rfl | rfl
      · exact absurd rfl hab
      · exact fun e => h1 e.symm
      · exact h1
      · exact absurd rfl hab
    rw [← hpk, ← hpt]
    exact key _ _ hk2 hk2' hne
  obtain ⟨R, hR1, hR2⟩ : ∃ R : Nat → Nat, R ps = k ∧ R pt = k' := ⟨fun z => if z = ps then k else k', if_pos rfl, if_neg hap⟩
  obtain ⟨ln, hln⟩ : ∃ ln : Nat → Nat, ln = fun z => (rs (R z)).length := ⟨_, rfl⟩
  obtain ⟨S, hS⟩ : ∃ S : World → Prop, S = fun u => u.cell? ⟨g5, k, none⟩ = some (.pointer (some ⟨ps, 0, none⟩)) ∧ u.cell? ⟨g5, k', none⟩ = some (.pointer (some ⟨pt, 0, none⟩)) ∧ u.cell? ⟨g6, k * 2, none⟩ = some (.slice va nk vc) ∧ u.cell? ⟨g6, k * 2 + 1, none⟩ = some (.int .i64 most) ∧ u.cell? ⟨g6, k' * 2, none⟩ = some (.slice va' nk' vc') ∧ u.cell? ⟨g6, k' * 2 + 1, none⟩ = some (.int .i64 most) := ⟨_, rfl⟩
  have hSb : ∀ u, Below W.heap.size W u → u.cell? ⟨g5, k, none⟩ = some (.pointer (some ⟨ps, 0, none⟩)) ∧ u.cell? ⟨g5, k', none⟩ = some (.pointer (some ⟨pt, 0, none⟩)) ∧ u.cell? ⟨g6, k * 2, none⟩ = some (.slice va nk vc) ∧ u.cell? ⟨g6, k * 2 + 1, none⟩ = some (.int .i64 most) ∧ u.cell? ⟨g6, k' * 2, none⟩ = some (.slice va' nk' vc') ∧ u.cell? ⟨g6, k' * 2 + 1, none⟩ = some (.int .i64 most) := fun u hu =>
    ⟨(hu.cell (World.block_lt_of_cell? _ _ r0)).trans r0, (hu.cell (World.block_lt_of_cell? _ _ t0)).trans t0, (hu.cell (World.block_lt_of_cell? _ _ r1)).trans r1, (hu.cell (World.block_lt_of_cell? _ _ r2)).trans r2, (hu.cell (World.block_lt_of_cell? _ _ t1)).trans t1, (hu.cell (World.block_lt_of_cell? _ _ t2)).trans t2⟩
  obtain ⟨Zp, hZp⟩ : ∃ Zp : Nat → Prop, Zp = fun z => R z < 2 ∧ p (R z) = z := ⟨_, rfl⟩
  have HZ1 : Hid (Zp ps) := by rw [hZp]; exact ⟨by rw [hR1]; exact hk2, by rw [hR1]; exact hpk⟩
  have HZ2 : Hid (Zp pt) := by rw [hZp]; exact ⟨by rw [hR2]; exact hk2', by rw [hR2]; exact hpt⟩
  obtain ⟨Zv, hZv⟩ : ∃ Zv : Nat → Option Addr → Nat → Nat → Prop, Zv = fun z a n c => R z < 2 ∧ v (R z) = .slice a n c := ⟨_, rfl⟩
  have HZ3 : Hid (Zv ps va nk vc) := by rw [hZv]; exact ⟨by rw [hR1]; exact hk2, by rw [hR1]; exact hv⟩
  have HZ4 : Hid (Zv pt va' nk' vc') := by rw [hZv]; exact ⟨by rw [hR2]; exact hk2', by rw [hR2]; exact hv'⟩
  obtain ⟨T1, hT1⟩ : ∃ T1 : Nat → Value → World → Prop, T1 = fun z s u => Below W.heap.size W u ∧ u.ownsRow 0 47 2 s (rs (R z)).length (enc .i64 (rs (R z))) := ⟨_, rfl⟩
  obtain ⟨T2, hT2⟩ : ∃ T2 : Nat → Value → Value → World → Prop, T2 = fun z s s' u => Below W.heap.size W u ∧ u.ownsRow 0 47 2 s (rs (R z)).length (enc .i64 (rs (R z))) ∧ u.ownsRow 0 47 2 s' (rs (R z)).length (enc .i64 (rs (R z))) ∧ (rs (R z)).length ≤ 100 := ⟨_, rfl⟩
  have CT : Hid (∀ u z, Hid (Below W.heap.size W u) → Hid (Zp z) → Calls Try.prog 44 #[.pointer (some ⟨z, 0, none⟩)] u fun e w' => ∃ (a : Option Addr) (c : Nat), e = .returned (.slice a (ln z) c) ∧ (w'.cell? ⟨g5, k, none⟩ = some (.pointer (some ⟨ps, 0, none⟩)) ∧ w'.cell? ⟨g5, k', none⟩ = some (.pointer (some ⟨pt, 0, none⟩)) ∧ w'.cell? ⟨g6, k * 2, none⟩ = some (.slice va nk vc) ∧ w'.cell? ⟨g6, k * 2 + 1, none⟩ = some (.int .i64 most) ∧ w'.cell? ⟨g6, k' * 2, none⟩ = some (.slice va' nk' vc') ∧ w'.cell? ⟨g6, k' * 2 + 1, none⟩ = some (.int .i64 most)) ∧ Hid (T1 z (.slice a (ln z) c) w')) := fun u z hu hz => by
    have hz := unhide hz
    rw [hZp] at hz
    obtain ⟨F, f1, f2⟩ := (hM.step (unhide hu)).herd
    have hf := f2 (R z) hz.1
    have hl := (hF.len hz.1).1
    rw [hz.2] at hf
    refine (f1.told hf (by omega)).mono ?_
    rintro e w' ⟨v', rfl, hN⟩
    obtain ⟨a, c, rfl⟩ := (unhide hN).shape
    have hb := (unhide hu).trans ((unhide hN).below.mono (unhide hu).size)
    have e1 : (rs (R z)).length = ln z := by rw [hln]
    refine ⟨a, c, by rw [e1], hSb _ hb, ?_⟩
    show T1 _ _ _
    rw [hT1, ← e1]
    exact ⟨hb, (unhide hN).row⟩
  have CR : Hid (∀ u z s a n c, Hid (T1 z s u) → Hid (Zv z a n c) → Calls Try.prog 33 #[.agg #[.slice a n c, .int .i64 most]] u fun e w' => ∃ (a9 : Option Addr) (n9 c9 : Nat), e = .returned (.slice a9 n9 c9) ∧ (w'.cell? ⟨g5, k, none⟩ = some (.pointer (some ⟨ps, 0, none⟩)) ∧ w'.cell? ⟨g5, k', none⟩ = some (.pointer (some ⟨pt, 0, none⟩)) ∧ w'.cell? ⟨g6, k * 2, none⟩ = some (.slice va nk vc) ∧ w'.cell? ⟨g6, k * 2 + 1, none⟩ = some (.int .i64 most) ∧ w'.cell? ⟨g6, k' * 2, none⟩ = some (.slice va' nk' vc') ∧ w'.cell? ⟨g6, k' * 2 + 1, none⟩ = some (.int .i64 most)) ∧ Hid (T2 z s (.slice a9 n9 c9) w')) := fun u z s a n c hu hz => by
    have hz := unhide hz
    rw [hZv] at hz
    have hu := unhide hu
    rw [hT1] at hu
    have hl := (hF.len hz.1).1
    have hr := (hM.step hu.1).runs hF (by omega) hmx hz.1
    rw [hz.2] at hr
    refine hr.mono ?_
    rintro e w' ⟨v', rfl, hN⟩
    obtain ⟨a9, c9, rfl⟩ := (unhide hN).shape
    have hb := hu.1.trans ((unhide hN).below.mono hu.1.size)
    refine ⟨a9, _, c9, rfl, hSb _ hb, ?_⟩
    show T2 _ _ _ _
    rw [hT2]
    exact ⟨hb, row_below hu.2 (unhide hN).below, (unhide hN).row, by omega⟩
  have CC : Hid (∀ u z s s', Hid (T2 z s s' u) → Calls Try.prog 26 #[s, s'] u fun e w' => e = .returned (.bool true) ∧ (w'.cell? ⟨g5, k, none⟩ = some (.pointer (some ⟨ps, 0, none⟩)) ∧ w'.cell? ⟨g5, k', none⟩ = some (.pointer (some ⟨pt, 0, none⟩)) ∧ w'.cell? ⟨g6, k * 2, none⟩ = some (.slice va nk vc) ∧ w'.cell? ⟨g6, k * 2 + 1, none⟩ = some (.int .i64 most) ∧ w'.cell? ⟨g6, k' * 2, none⟩ = some (.slice va' nk' vc') ∧ w'.cell? ⟨g6, k' * 2 + 1, none⟩ = some (.int .i64 most)) ∧ Hid (Below W.heap.size W w')) := fun u z s s' hu => by
    have hu := unhide hu
    rw [hT2] at hu
    refine (sameR u hu.2.1 hu.2.2.1 (by omega)).mono ?_
    rintro e w' ⟨⟨r, rfl, hr⟩, q, rfl⟩
    have hb : Below W.heap.size W (u.drewN q) := below_drewN hu.1 q
    exact ⟨by rw [hr.2 rfl], hSb _ hb, hb⟩
  have CL : Hid (∀ u, Hid (Below W.heap.size W u) → Calls Try.prog 29 #[.pointer (some ⟨ps, 0, none⟩)] u fun e w' => e = .returned (.int .i64 (ln ps)) ∧ (w'.cell? ⟨g5, k, none⟩ = some (.pointer (some ⟨ps, 0, none⟩)) ∧ w'.cell? ⟨g5, k', none⟩ = some (.pointer (some ⟨pt, 0, none⟩)) ∧ w'.cell? ⟨g6, k * 2, none⟩ = some (.slice va nk vc) ∧ w'.cell? ⟨g6, k * 2 + 1, none⟩ = some (.int .i64 most) ∧ w'.cell? ⟨g6, k' * 2, none⟩ = some (.slice va' nk' vc') ∧ w'.cell? ⟨g6, k' * 2 + 1, none⟩ = some (.int .i64 most)) ∧ Hid (Below W.heap.size W w')) := fun u hu => by
    obtain ⟨F, f1, f2⟩ := (hM.step (unhide hu)).herd
    have hf := f2 k hk2
    rw [hpk] at hf
    refine (f1.len hf).mono ?_
    rintro e w' ⟨rfl, rfl⟩
    exact ⟨by rw [hln]; simp only [hR1], hSb _ (unhide hu), hu⟩
  have HT1 := hide hT1
  have HF := hide hF
  have HM := hide hM
  have hkz : (k : Int) < 2 := by omega
  have hkz' : (k' : Int) < 2 := by omega
  clear hM hF hT1 hT2 hZv hZp hSb hS S hln hR1 hR2 hap hpt hv hv' hpk hmx hi40 hne
  go_upto_region 46 with fail
  go_region_held3 (fun u => u.cell? ⟨g5, k, none⟩ = some (.pointer (some ⟨ps, 0, none⟩)) ∧ u.cell? ⟨g5, k', none⟩ = some (.pointer (some ⟨pt, 0, none⟩)) ∧ u.cell? ⟨g6, k * 2, none⟩ = some (.slice va nk vc) ∧ u.cell? ⟨g6, k * 2 + 1, none⟩ = some (.int .i64 most) ∧ u.cell? ⟨g6, k' * 2, none⟩ = some (.slice va' nk' vc') ∧ u.cell? ⟨g6, k' * 2 + 1, none⟩ = some (.int .i64 most)) (first | exact ⟨r0, t0, r1, r2, t1, t2⟩ | exact ⟨dd0, dd1, dd2, dd3, dd4, dd5⟩ | (go_keep; done)) (first | (go_at_call 44; refine (unhide CT _ _ (by first | assumption | exact hide (below_drewN (Below.refl _ _) _)) (by assumption)).mono ?_; rintro e w' ⟨a, c, rfl, ⟨dd0, dd1, dd2, dd3, dd4, dd5⟩, hT⟩) | (go_at_call 33; refine (unhide CR _ _ _ _ _ _ (by assumption) (by assumption)).mono ?_; rintro e w' ⟨a9, n9, c9, rfl, ⟨dd0, dd1, dd2, dd3, dd4, dd5⟩, hT⟩) | (go_at_call 26; refine (unhide CC _ _ _ _ (by assumption)).mono ?_; rintro e w' ⟨rfl, ⟨dd0, dd1, dd2, dd3, dd4, dd5⟩, hT⟩) | (go_at_call 29; refine (unhide CL _ (by assumption)).mono ?_; rintro e w' ⟨rfl, ⟨dd0, dd1, dd2, dd3, dd4, dd5⟩, hT⟩))
  go_wp2_with fail
  have hb := unhide hT
  rw [unhide HT1] at hb
  exact unhide HQ _ _ _ _ _ _ _ _ _ _ _ _ _ _ _ _ _ _ _ _ _ _ _ _ _ _ _ _ _ _ _ _ _ _ _ _ _ _ _ _ _ _ _ _ _ _ _ _ _ ⟨p, rs, v, ds, G, (unhide HM).step hb.1, unhide HF⟩
end Go.Proofs.Ytdalghfhpekcfaa
