/- Cut. -/
import Derived.Test.YtdalghfhpekcfaaKAddI
namespace Go.Proofs.Ytdalghfhpekcfaa
open Go.RowKit Go.Shelf
variable {w : World} {g5 g6 : Nat} {most : Int} {p : Nat → Nat} {rs : Nat → List (Int × Int)} {v : Nat → Value} {ds : Nat → List Deed} {G : Nat → Option Obj} {W : World} {ob b12 b13 k k' ps pt : Nat} {va va' wa : Option Addr} {nk vc nk' vc' rl wcp : Nat} {kd la ha x y : Int} {sc : Bool} {i : Nat}

set_option maxHeartbeats 8000000 in
set_option maxRecDepth 100000 in
theorem kCutI (a0 a1 a2 a3 a4 a20 a21 a22 a23 a24 a25 a26 a27 a28 a29 a30 a31 a32 a33 a34 a35 a36 a37 a38 a39 a40 a41 a42 a43 a44 a45 a46 a47 a48 a49 a50 a51 a52 a53 a54 a55 a56 a57 a58 a59 a60 a61 a62 a63 a64 a65 a66 a67 a68 a69 a70 a71 a72 a73 a74 a75 a76 a77 a78 a79 a80 a81 a82 a83 a84 a85 a86 a87 a88 a89 a90 a91 a92 a93 a94 a95 a96 a97 a98 a99 a100 a101 a102 a103 a104 a105 a106 a107 a108 a109 a110 a111 a112 a113 a114 a115 a116 a117 a118 a119 a120 a121 a122 a123 a124 a125 a126 a127 a128 a129 a130 a131 a132 a133 a134 a135 a136 a137 a138 a139 a140 a141 a142 a143 a144 a145 a146 a147 a148 a149 a150 a151 a152 a153 a154 a155 a156 a157 a158 a159 a160 a161 a162 a163 a164 a165 a166 a167 a168 a169 a170 a171 a172 a173 a174 a175 a176 a177 a178 a179 a180 a181 a182 a183 a184 a185 a186 a187 a188 a189 a190 a191 a192 a193 a194 a195 a196 a197 a198 a199 a200 a201 a202 a203 a204 a205 a206 a207 a208 a209 a210 a211 a212 a213 a214 a215 a216 a217 a218 a219 a220 a221 a222 a223 a224 a225 a226 a227 a228 a229 a230 a231 a232 a233 a234 a235 a236 a237 a238 a239 a240 a241 a242 a243 a244 a245 a246 a247 a248 a249 a250 a251 a252 a253 a254 a255 a256 a257 a258 a259 a260 a261 a262 a263 a264 a265 a266 a267 a268 a269 a270 a271 a272 a273 a274 a275 a276 a277 a278 a279 a280 a281 a282 a283 a284 a285 a286 a287 a288 a289 a290 a291 a292 a293 a294 a295 a296 a297 a298 a299 a300 a301 a302 a303 a304 a305 a306 a307 a308 a309 a310 a311 : Value) (Q : Exit → Act → World → Prop) (HS : Hid (SwI w g5 g6 most p rs v ds G W ob b12 b13 k k' ps pt va va' wa nk vc nk' vc' rl wcp kd la ha x y sc i))
    (HQ : Hid (∀ (b21 b22 b23 b24 b25 b82 b83 b84 b85 b86 b87 b88 b89 b90 b91 b92 b93 b94 b95 b96 b97 b98 b99 b100 b101 b102 b103 b104 b105 b106 b107 b108 b109 b110 b111 b112 b113 b114 b115 b116 b117 b118 b119 b120 b121 b122 b123 b124 b125 b126 b127 b128 b129 b130 b131 b132 b133 b134 b135 b136 b137 b138 b139 b140 b141 b142 b143 b144 b145 b146 b147 b148 b149 b150 b151 b152 b153 b154 b155 b156 b157 b158 b159 b160 b161 b162 b163 b164 b165 b166 b167 b168 b169 b170 b171 b172 b173 b174 b175 b176 b177 b178 b179 b180 b181 b182 b183 b184 b185 b186 b187 b188 b189 b190 b191 b192 b193 b194 b195 b196 b197 b198 b199 b200 b201 b202 b203 b204 b205 b206 b207 b208 b209 b210 b211 b212 b213 b214 b215 b216 b217 b218 b219 b220 b221 b222 b223 b224 b225 b226 b227 b228 b229 b230 b231 b232 b233 b234 b235 b236 b237 b238 b239 b240 b241 b242 b243 b244 b245 b246 b247 b248 b249 b250 b251 b252 b253 b254 b255 b256 b257 b258 b259 b260 b261 b262 b263 : Value) (wq : World), AfterI w g5 g6 most k ps i wq → Q .normal ⟨#[a0, a1, a2, a3, a4, .slice (some ⟨g5, 0, none⟩) 2 2, .slice (some ⟨g6, 0, none⟩) 2 2, .int .i64 i, .pointer (some ⟨ob, 0, none⟩), .int .i64 k, .pointer (some ⟨ps, 0, none⟩), .pointer (some ⟨pt, 0, none⟩), .pointer (some ⟨b12, 0, none⟩), .pointer (some ⟨b13, 0, none⟩), .int .i64 x, .int .i64 y, .int .i64 x, .int .i64 y, .slice wa rl wcp, .bool true, a20, b21, b22, b23, b24, b25, a26, a27, a28, a29, a30, a31, a32, a33, a34, a35, a36, a37, a38, a39, a40, a41, a42, a43, a44, a45, a46, a47, a48, a49, a50, a51, a52, a53, a54, a55, a56, a57, a58, a59, a60, a61, a62, a63, a64, a65, a66, a67, a68, a69, a70, a71, a72, a73, a74, a75, a76, a77, a78, a79, a80, a81, b82, b83, b84, b85, b86, b87, b88, b89, b90, b91, b92, b93, b94, b95, b96, b97, b98, b99, b100, b101, b102, b103, b104, b105, b106, b107, b108, b109, b110, b111, b112, b113, b114, b115, b116, b117, b118, b119, b120, b121, b122, b123, b124, b125, b126, b127, b128, b129, b130, b131, b132, b133, b134, b135, b136, b137, b138, b139, b140, b141, b142, b143, b144, b145, b146, b147, b148, b149, b150, b151, b152, b153, b154, b155, b156, b157, b158, b159, b160, b161, b162, b163, b164, b165, b166, b167, b168, b169, b170, b171, b172, b173, b174, b175, b176, b177, b178, b179, b180, b181, b182, b183, b184, b185, b186, b187, b188, b189, b190, b191, b192, b193, b194, b195, b196, b197, b198, b199, b200, b201, b202, b203, b204, b205, b206, b207, b208, b209, b210, b211, b212, b213, b214, b215, b216, b217, b218, b219, b220, b221, b222, b223, b224, b225, b226, b227, b228, b229, b230, b231, b232, b233, b234, b235, b236, b237, b238, b239, b240, b241, b242, b243, b244, b245, b246, b247, b248, b249, b250, b251, b252, b253, b254, b255, b256, b257, b258, b259, b260, b261, b262, b263, a264, a265, a266, a267, a268, a269, a270, a271, a272, a273, a274, a275, a276, a277, a278, a279, a280, a281, a282, a283, a284, a285, a286, a287, a288, a289, a290, a291, a292, a293, a294, a295, a296, a297, a298, a299, a300, a301, a302, a303, a304, a305, a306, a307, a308, a309, a310, a311], []⟩ wq)) (hkd : kd = 2) :
    Code.wp Try.prog ((Try.f10.body.bind (atRegion 17)).getD .skip) Q ⟨#[a0, a1, a2, a3, a4, .slice (some ⟨g5, 0, none⟩) 2 2, .slice (some ⟨g6, 0, none⟩) 2 2, .int .i64 i, .pointer (some ⟨ob, 0, none⟩), .int .i64 k, .pointer (some ⟨ps, 0, none⟩), .pointer (some ⟨pt, 0, none⟩), .pointer (some ⟨b12, 0, none⟩), .pointer (some ⟨b13, 0, none⟩), .int .i64 x, .int .i64 y, .int .i64 x, .int .i64 y, .slice wa rl wcp, .bool true, a20, a21, a22, a23, a24, a25, a26, a27, a28, a29, a30, a31, a32, a33, a34, a35, a36, a37, a38, a39, a40, a41, a42, a43, a44, a45, a46, a47, a48, a49, a50, a51, a52, a53, a54, a55, a56, a57, a58, a59, a60, a61, a62, a63, a64, a65, a66, a67, a68, a69, a70, a71, a72, a73, a74, a75, a76, a77, a78, a79, a80, a81, a82, a83, a84, a85, a86, a87, a88, a89, a90, a91, a92, a93, a94, a95, a96, a97, a98, a99, a100, a101, a102, a103, a104, a105, a106, a107, a108, a109, a110, a111, a112, a113, a114, a115, a116, a117, a118, a119, a120, a121, a122, a123, a124, a125, a126, a127, a128, a129, a130, a131, a132, a133, a134, a135, a136, a137, a138, a139, a140, a141, a142, a143, a144, a145, a146, a147, a148, a149, a150, a151, a152, a153, a154, a155, a156, a157, a158, a159, a160, a161, a162, a163, a164, a165, a166, a167, a168, a169, a170, a171, a172, a173, a174, a175, a176, a177, a178, a179, a180, a181, a182, a183, a184, a185, a186, a187, a188, a189, a190, a191, a192, a193, a194, a195, a196, a197, a198, a199, a200, a201, a202, a203, a204, a205, a206, a207, a208, a209, a210, a211, a212, a213, a214, a215, a216, a217, a218, a219, a220, a221, a222, a223, a224, a225, a226, a227, a228, a229, a230, a231, a232, a233, a234, a235, a236, a237, a238, a239, a240, a241, a242, a243, a244, a245, a246, a247, a248, a249, a250, a251, a252, a253, a254, a255, a256, a257, a258, a259, a260, a261, a262, a263, a264, a265, a266, a267, a268, a269, a270, a271, a272, a273, a274, a275, a276, a277, a278, a279, a280, a281, a282, a283, a284, a285, a286, a287, a288, a289, a290, a291, a292, a293, a294, a295, a296, a297, a298, a299, a300, a301, a302, a303, a304, a305, a306, a307, a308, a309, a310, a311], []⟩ W := by
  conv => arg 2; whnf
  subst hkd
  have q0 := (unhide HS).q0
  obtain ⟨m0, m1⟩ := (unhide HS).m12
  have hkz : (k : Int) < 2 := by have := (unhide HS).hk; omega
  have C1 := hide ((unhide HS).done false)
  go_upto_region 22 with fail
  go_wp2_with fail
  refine (unhide C1).mono ?_
  rintro e w1 ⟨a2, c2, rfl, ⟨z0, z1, z2⟩, HT⟩
  clear C1 m0 m1
  go_upto_region 23 with fail
  clear z0 z1 z2
  generalize ((w1.setCell ⟨g6, k * 2, none⟩ (.slice a2 (nk + 1) c2)).setCell ⟨g6, k * 2 + 1, none⟩ (.int .i64 most)) = W2 at *
  obtain ⟨G2, M2, R2⟩ := unhide HT
  have hc := M2.cells (unhide HS).hk
  rw [put2_self] at hc
  obtain ⟨-, ⟨z0, z1⟩, -, -⟩ := hc
  have HM2 := hide (And.intro M2 R2)
  clear M2 R2 HT
  obtain ⟨St1, hSt1⟩ : ∃ St1 : Bool → List (Int × Int) → World → Prop, St1 = fun r rs' u => MemI w g5 g6 most p (put2 rs k rs') (put2 v k (.slice a2 (nk + 1) c2)) (put2 ds k (ds k ++ [(false, x, y)])) G2 u ∧ Fair most (i + 1) (put2 rs k rs') (put2 ds k (ds k ++ [(false, x, y)])) ∧ (r = true ↔ rs' ≠ rs k) := ⟨_, rfl⟩
  have HSt := hide hSt1
  clear hSt1
  have HZ : Hid (∀ r rs' u, St1 r rs' u → u.cell? ⟨g6, k * 2, none⟩ = some (.slice a2 (nk + 1) c2) ∧ u.cell? ⟨g6, k * 2 + 1, none⟩ = some (.int .i64 most)) := fun r rs' u h => by
    rw [unhide HSt] at h
    have hc := h.1.cells (unhide HS).hk
    rw [put2_self] at hc
    exact hc.2.1
  have CA : Hid (∀ q, Calls Try.prog 30 #[.pointer (some ⟨ps, 0, none⟩), .int .i64 x, .int .i64 y] (W2.drewN q) fun e w' => ∃ (r : Bool) (rs' : List (Int × Int)), e = .returned (.bool r) ∧ (w'.cell? ⟨g6, k * 2, none⟩ = some (.slice a2 (nk + 1) c2) ∧ w'.cell? ⟨g6, k * 2 + 1, none⟩ = some (.int .i64 most)) ∧ Hid (St1 r rs' w')) := fun q => by
    have hM := (unhide HM2).1.step (below_drewN (Below.refl _ _) q)
    obtain ⟨F, f1, f2⟩ := hM.herd
    have hf := f2 k (unhide HS).hk
    have hl := ((unhide HS).fair.len (unhide HS).hk).1
    have h40 := (unhide HS).i40
    rw [(unhide HS).pk] at hf
    refine (f1.cutR x y hf (by omega) (unhide HS).xy).mono ?_
    rintro e w' ⟨r, rs', rfl, hh⟩
    obtain ⟨g1, g2, g3, g4, g6x⟩ := unhide hh
    have hm2 : MemI w g5 g6 most p (put2 rs k rs') (put2 v k (.slice a2 (nk + 1) c2)) (put2 ds k (ds k ++ [(false, x, y)])) G2 w' := hM.other (unhide HS).hk f2 (by rw [(unhide HS).pk]; exact g4)
    have hst : St1 r rs' w' := by
      rw [unhide HSt]
      exact ⟨hm2, (unhide HS).fair.cut (unhide HS).hk g1 g2 (by have := (unhide HS).xy; omega) (by rw [(unhide HS).mx]; exact (unhide HS).xy.2.2), g6x⟩
    exact ⟨r, rs', rfl, unhide HZ _ _ _ hst, hst⟩
  have CB : Hid (∀ u r rs', Hid (St1 r rs' u) → Calls Try.prog 33 #[.agg #[.slice a2 (nk + 1) c2, .int .i64 most]] u fun e w' => ∃ (a : Option Addr) (n c : Nat), e = .returned (.slice a n c) ∧ (w'.cell? ⟨g6, k * 2, none⟩ = some (.slice a2 (nk + 1) c2) ∧ w'.cell? ⟨g6, k * 2 + 1, none⟩ = some (.int .i64 most)) ∧ Hid (St1 r rs' w' ∧ w'.ownsRow 0 47 2 (.slice a n c) rs'.length (enc .i64 rs'))) := fun u r rs' hu => by
    have h := unhide hu
    rw [unhide HSt] at h
    have h40 := (unhide HS).i40
    have hr := h.1.runs h.2.1 (by omega) (unhide HS).mx (unhide HS).hk
    rw [put2_self, put2_self] at hr
    refine hr.mono ?_
    rintro e w' ⟨v', rfl, hN⟩
    obtain ⟨a, c, hv⟩ := (unhide hN).shape
    subst hv
    have hst : St1 r rs' w' := by
      rw [unhide HSt]
      exact ⟨h.1.step (unhide hN).below, h.2⟩
    exact ⟨a, _, c, rfl, unhide HZ _ _ _ hst, hst, (unhide hN).row⟩
  have CC : Hid (∀ u r rs' a n c, Hid (St1 r rs' u ∧ u.ownsRow 0 47 2 (.slice a n c) rs'.length (enc .i64 rs')) → Calls Try.prog 26 #[.slice wa rl wcp, .slice a n c] u fun e w' => e = .returned (.bool (!r)) ∧ (w'.cell? ⟨g6, k * 2, none⟩ = some (.slice a2 (nk + 1) c2) ∧ w'.cell? ⟨g6, k * 2 + 1, none⟩ = some (.int .i64 most)) ∧ Hid (St1 r rs' w')) := fun u r rs' a n c hu => by
    obtain ⟨h, hrow⟩ := unhide hu
    rw [unhide HSt] at h
    have hl := ((unhide HS).fair.len (unhide HS).hk).1
    have h40 := (unhide HS).i40
    have hw := (unhide HM2).2.row h.1.keep
    rw [← (unhide HS).len] at hw ⊢
    refine (sameR u hw hrow (by omega)).mono ?_
    rintro e w' ⟨⟨s, rfl, hs⟩, q, rfl⟩
    have hst : St1 r rs' (u.drewN q) := by
      rw [unhide HSt]
      exact ⟨h.1.step (below_drewN (Below.refl _ _) q), h.2⟩
    have e1 : s = !r := by
      rw [Bool.eq_iff_iff, hs, Bool.not_eq_true', ← Bool.not_eq_true, h.2.2]
      exact ⟨fun e h => h e.symm, fun h => (Classical.byContradiction h).symm⟩
    exact ⟨by rw [e1], unhide HZ _ _ _ hst, hst⟩
  clear HM2 HZ
  go_region_held3 (fun u => u.cell? ⟨g6, k * 2, none⟩ = some (.slice a2 (nk + 1) c2) ∧ u.cell? ⟨g6, k * 2 + 1, none⟩ = some (.int .i64 most)) (first | exact ⟨z0, z1⟩ | exact ⟨dd0, dd1⟩ | (go_keep; done)) (first | (go_at_call 30; refine (unhide CA _).mono ?_; rintro e w' ⟨r, rs', rfl, ⟨dd0, dd1⟩, hT⟩) | (go_at_call 33; refine (unhide CB _ _ _ (by assumption)).mono ?_; rintro e w' ⟨a, n, c, rfl, ⟨dd0, dd1⟩, hT⟩) | (go_at_call 26; refine (unhide CC _ _ _ _ _ _ (by assumption)).mono ?_; rintro e w' ⟨rfl, ⟨dd0, dd1⟩, hT⟩))
  go_wp2_with fail
  have hst := unhide hT
  rw [unhide HSt] at hst
  exact unhide HQ _ _ _ _ _ _ _ _ _ _ _ _ _ _ _ _ _ _ _ _ _ _ _ _ _ _ _ _ _ _ _ _ _ _ _ _ _ _ _ _ _ _ _ _ _ _ _ _ _ _ _ _ _ _ _ _ _ _ _ _ _ _ _ _ _ _ _ _ _ _ _ _ _ _ _ _ _ _ _ _ _ _ _ _ _ _ _ _ _ _ _ _ _ _ _ _ _ _ _ _ _ _ _ _ _ _ _ _ _ _ _ _ _ _ _ _ _ _ _ _ _ _ _ _ _ _ _ _ _ _ _ _ _ _ _ _ _ _ _ _ _ _ _ _ _ _ _ _ _ _ _ _ _ _ _ _ _ _ _ _ _ _ _ _ _ _ _ _ _ _ _ _ _ _ _ _ _ _ _ _ _ _ _ _ _ _ _ _ ⟨p, _, _, _, G2, hst.1, hst.2.1, (unhide HS).pk⟩
end Go.Proofs.Ytdalghfhpekcfaa
