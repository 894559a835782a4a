/- Clone. -/
import Derived.Test.YtdalghfhpekcfaaKSameK
namespace Go.Proofs.Ytdalghfhpekcfaa
open Go.RowKit Go.Shelf
variable {w : World} {g5 g6 : Nat} {most : Int} {p : Nat → Nat} {rs : Nat → List (Int × Int)} {v : Nat → Value} {ds : Nat → List Deed} {G : Nat → Option Obj} {W : World} {ob b12 b13 k k' ps pt : Nat} {va va' wa : Option Addr} {nk vc nk' vc' rl wcp : Nat} {kd la ha x y : Int} {sc : Bool} {i : Nat}

/-- sets[k'] is a new set with the runs of sets[k], refs[k'] is refs[k]. -/
theorem MemK.clone {W' : World} {F : Nat → Option (List (Int × Int))} {p2 : Nat} (h : MemK w g5 g6 most p rs v ds G W) (hk : k < 2) (hk' : k' < 2) (ne : k ≠ k') (f1 : HerdK w.heap.size w F G W) (hF : ∀ k, k < 2 → F (p k) = some (rs k)) (hp : W.heap.size ≤ p2) (hH : HerdK w.heap.size w (at' F p2 (rs k)) G W') :
    ∃ G', MemK w g5 g6 most (put2 p k' p2) (put2 rs k' (rs k)) (put2 v k' (v k)) (put2 ds k' (ds k)) G' (((W'.setCell ⟨g5, k', none⟩ (.pointer (some ⟨p2, 0, none⟩))).setCell ⟨g6, k' * 2, none⟩ (v k)).setCell ⟨g6, k' * 2 + 1, none⟩ (.int .i64 most)) := by
  have h56 : g5 ≠ g6 := fun e => by
    have h1 := h.sets
    rw [e, h.refs] at h1
    injection h1 with h1
    injection h1 with _ h2 _
    exact absurd h2 (by decide)
  obtain ⟨G1, hG1⟩ : ∃ G1 : Nat → Option Obj, G1 = fun j => if j = g5 then some (.cells (#[.pointer (some ⟨p 0, 0, none⟩), .pointer (some ⟨p 1, 0, none⟩)].setIfInBounds k' (.pointer (some ⟨p2, 0, none⟩))) 72 (0, 0)) else G j := ⟨_, rfl⟩
  have a1 : HerdK w.heap.size w (at' F p2 (rs k)) G1 (W'.setCell ⟨g5, k', none⟩ (.pointer (some ⟨p2, 0, none⟩))) := by rw [hG1]; exact hH.poke (i := k') h.sets h.own5 _
  have e6 : G1 g6 = some (.cells #[v 0, .int .i64 most, v 1, .int .i64 most] 62 (0, 0)) := by rw [hG1]; exact (if_neg (fun e => h56 e.symm)).trans h.refs
  obtain ⟨G2, hG2⟩ : ∃ G2 : Nat → Option Obj, G2 = fun j => if j = g6 then some (.cells (#[v 0, .int .i64 most, v 1, .int .i64 most].setIfInBounds (k' * 2) (v k)) 62 (0, 0)) else G1 j := ⟨_, rfl⟩
  have a2 : HerdK w.heap.size w (at' F p2 (rs k)) G2 ((W'.setCell ⟨g5, k', none⟩ (.pointer (some ⟨p2, 0, none⟩))).setCell ⟨g6, k' * 2, none⟩ (v k)) := by rw [hG2]; exact a1.poke (i := k' * 2) e6 h.own6 _
  have e6' : G2 g6 = some (.cells (#[v 0, .int .i64 most, v 1, .int .i64 most].setIfInBounds (k' * 2) (v k)) 62 (0, 0)) := by rw [hG2]; exact if_pos rfl
  obtain ⟨G3, hG3⟩ : ∃ G3 : Nat → Option Obj, G3 = fun j => if j = g6 then some (.cells ((#[v 0, .int .i64 most, v 1, .int .i64 most].setIfInBounds (k' * 2) (v k)).setIfInBounds (k' * 2 + 1) (.int .i64 most)) 62 (0, 0)) else G2 j := ⟨_, rfl⟩
  have a3 : HerdK w.heap.size w (at' F p2 (rs k)) G3 (((W'.setCell ⟨g5, k', none⟩ (.pointer (some ⟨p2, 0, none⟩))).setCell ⟨g6, k' * 2, none⟩ (v k)).setCell ⟨g6, k' * 2 + 1, none⟩ (.int .i64 most)) := by rw [hG3]; exact a2.poke (i := k' * 2 + 1) e6' h.own6 _
  have oth : ∀ g cs, G g = some (.cells cs 97 (0, 0)) → G3 g = some (.cells cs 97 (0, 0)) := fun g cs hg => by
    have n1 : g ≠ g6 := fun e => by
      rw [e, h.refs] at hg
      injection hg with hg
      injection hg with _ h2 _
      exact absurd h2 (by decide)
    have n2 : g ≠ g5 := fun e => by
      rw [e, h.sets] at hg
      injection hg with hg
      injection hg with _ h2 _
      exact absurd h2 (by decide)
    rw [hG3, hG2, hG1]
    simp only [if_neg n1, if_neg n2]
    exact hg
  have kk : k = 0 ∧ k' = 1 ∨ k = 1 ∧ k' = 0 := by omega
  have hlt : ∀ j, j < 2 → p j < W.heap.size := fun j hj => f1.lt (hF j hj)
  refine ⟨G3, ⟨_, a3, fun j hj => ?_⟩, ?_, fun j hj => ?_, h.own5, h.own6, ?_, ?_⟩
  · by_cases e : j = k'
    · subst e
      rw [put2_self, put2_self]
      exact at_self _ _ _
    · rw [put2_other _ _ e, put2_other _ _ e, at_other _ _ (by have := hlt j hj; omega)]
      exact hF j hj
  · have h0 := hlt 0 (by omega)
    have h1 := hlt 1 (by omega)
    rcases kk with ⟨rfl, rfl⟩ | ⟨rfl, rfl⟩ <;> simp only [put2] <;> simp <;> omega
  · by_cases e : j = k'
    · subst e
      rw [put2_self, put2_self]
      exact (h.rows k hk).move oth
    · rw [put2_other _ _ e, put2_other _ _ e]
      exact (h.rows j hj).move oth
  · rw [hG3, hG2, hG1]
    simp only [if_neg h56, if_true]
    rcases kk with ⟨rfl, rfl⟩ | ⟨rfl, rfl⟩ <;> simp [put2]
  · rw [hG3]
    simp only [if_true]
    rcases kk with ⟨rfl, rfl⟩ | ⟨rfl, rfl⟩ <;> simp [put2]

set_option maxHeartbeats 8000000 in
set_option maxRecDepth 100000 in
theorem kCloneK (a0 a1 a2 a3 a4 a20 a21 a22 a23 a24 a25 a26 a27 a28 a29 a30 a31 a32 a33 a34 a35 a36 a37 a38 a39 a40 a41 a42 a43 a44 a45 a46 a47 a48 a49 a50 a51 a52 a53 a54 a55 a56 a57 a58 a59 a60 a61 a62 a63 a64 a65 a66 a67 a68 a69 a70 a71 a72 a73 a74 a75 a76 a77 a78 a79 a80 a81 a82 a83 a84 a85 a86 a87 a88 a89 a90 a91 a92 a93 a94 a95 a96 a97 a98 a99 a100 a101 a102 a103 a104 a105 a106 a107 a108 a109 a110 a111 a112 a113 a114 a115 a116 a117 a118 a119 a120 a121 a122 a123 a124 a125 a126 a127 a128 a129 a130 a131 a132 a133 a134 a135 a136 a137 a138 a139 a140 a141 a142 a143 a144 a145 a146 a147 a148 a149 a150 a151 a152 a153 a154 a155 a156 a157 a158 a159 a160 a161 a162 a163 a164 a165 a166 a167 a168 a169 a170 a171 a172 a173 a174 a175 a176 a177 a178 a179 a180 a181 a182 a183 a184 a185 a186 a187 a188 a189 a190 a191 a192 a193 a194 a195 a196 a197 a198 a199 a200 a201 a202 a203 a204 a205 a206 a207 a208 a209 a210 a211 a212 a213 a214 a215 a216 a217 a218 a219 a220 a221 a222 a223 a224 a225 a226 a227 a228 a229 a230 a231 a232 a233 a234 a235 a236 a237 a238 a239 a240 a241 a242 a243 a244 a245 a246 a247 a248 a249 a250 a251 a252 a253 a254 a255 a256 a257 a258 a259 a260 a261 a262 a263 a264 a265 a266 a267 a268 a269 a270 a271 a272 a273 a274 a275 a276 a277 a278 a279 a280 a281 a282 a283 a284 a285 a286 a287 a288 a289 a290 a291 a292 a293 a294 a295 a296 a297 a298 a299 a300 a301 a302 a303 a304 a305 a306 a307 a308 a309 a310 a311 a312 a313 a314 a315 a316 : Value) (Q : Exit → Act → World → Prop) (HS : Hid (SwK w g5 g6 most p rs v ds G W ob b12 b13 k k' ps pt va va' wa nk vc nk' vc' rl wcp kd la ha x y sc i))
    (HQ : Hid (∀ (b21 b22 b23 b24 b25 b86 b87 b88 b89 b90 b91 b92 b93 b94 b95 b96 b97 b98 b99 b100 b101 b102 b103 b104 b105 b106 b107 b108 b109 b110 b111 b112 b113 b114 b115 b116 b117 b118 b119 b120 b121 b122 b123 b124 b125 b126 b127 b128 b129 b130 b131 b132 b133 b134 b135 b136 b137 b138 b139 b140 b141 b142 b143 b144 b145 b146 b147 b148 b149 b150 b151 b152 b153 b154 b155 b156 b157 b158 b159 b160 b161 b162 b163 b164 b165 b166 b167 b168 b169 b170 b171 b172 b173 b174 b175 b176 b177 b178 b179 b180 b181 b182 b183 b184 b185 b186 b187 b188 b189 b190 b191 b192 b193 b194 b195 b196 b197 b198 b199 b200 b201 b202 b203 b204 b205 b206 b207 b208 b209 b210 b211 b212 b213 b214 b215 b216 b217 b218 b219 b220 b221 b222 b223 b224 b225 b226 b227 b228 b229 b230 b231 b232 b233 b234 b235 b236 b237 b238 b239 b240 b241 b242 b243 b244 b245 b246 b247 b248 b249 b250 b251 b252 b253 b254 b255 b256 b257 b258 b259 b260 b261 b262 b263 b264 b265 b266 b267 b268 : Value) (wq : World), AfterK w g5 g6 most k ps i wq → Q .normal ⟨#[a0, a1, a2, a3, a4, .slice (some ⟨g5, 0, none⟩) 2 2, .slice (some ⟨g6, 0, none⟩) 2 2, .int .i64 i, .pointer (some ⟨ob, 0, none⟩), .int .i64 k, .pointer (some ⟨ps, 0, none⟩), .pointer (some ⟨pt, 0, none⟩), .pointer (some ⟨b12, 0, none⟩), .pointer (some ⟨b13, 0, none⟩), .int .i8 x, .int .i8 y, .int .i64 x, .int .i64 y, .slice wa rl wcp, .bool true, a20, b21, b22, b23, b24, b25, a26, a27, a28, a29, a30, a31, a32, a33, a34, a35, a36, a37, a38, a39, a40, a41, a42, a43, a44, a45, a46, a47, a48, a49, a50, a51, a52, a53, a54, a55, a56, a57, a58, a59, a60, a61, a62, a63, a64, a65, a66, a67, a68, a69, a70, a71, a72, a73, a74, a75, a76, a77, a78, a79, a80, a81, a82, a83, a84, a85, b86, b87, b88, b89, b90, b91, b92, b93, b94, b95, b96, b97, b98, b99, b100, b101, b102, b103, b104, b105, b106, b107, b108, b109, b110, b111, b112, b113, b114, b115, b116, b117, b118, b119, b120, b121, b122, b123, b124, b125, b126, b127, b128, b129, b130, b131, b132, b133, b134, b135, b136, b137, b138, b139, b140, b141, b142, b143, b144, b145, b146, b147, b148, b149, b150, b151, b152, b153, b154, b155, b156, b157, b158, b159, b160, b161, b162, b163, b164, b165, b166, b167, b168, b169, b170, b171, b172, b173, b174, b175, b176, b177, b178, b179, b180, b181, b182, b183, b184, b185, b186, b187, b188, b189, b190, b191, b192, b193, b194, b195, b196, b197, b198, b199, b200, b201, b202, b203, b204, b205, b206, b207, b208, b209, b210, b211, b212, b213, b214, b215, b216, b217, b218, b219, b220, b221, b222, b223, b224, b225, b226, b227, b228, b229, b230, b231, b232, b233, b234, b235, b236, b237, b238, b239, b240, b241, b242, b243, b244, b245, b246, b247, b248, b249, b250, b251, b252, b253, b254, b255, b256, b257, b258, b259, b260, b261, b262, b263, b264, b265, b266, b267, b268, a269, a270, a271, a272, a273, a274, a275, a276, a277, a278, a279, a280, a281, a282, a283, a284, a285, a286, a287, a288, a289, a290, a291, a292, a293, a294, a295, a296, a297, a298, a299, a300, a301, a302, a303, a304, a305, a306, a307, a308, a309, a310, a311, a312, a313, a314, a315, a316], []⟩ wq)) (hkd : kd = 8) :
    Code.wp Try.prog ((Try.f12.body.bind (atRegion 17)).getD .skip) Q ⟨#[a0, a1, a2, a3, a4, .slice (some ⟨g5, 0, none⟩) 2 2, .slice (some ⟨g6, 0, none⟩) 2 2, .int .i64 i, .pointer (some ⟨ob, 0, none⟩), .int .i64 k, .pointer (some ⟨ps, 0, none⟩), .pointer (some ⟨pt, 0, none⟩), .pointer (some ⟨b12, 0, none⟩), .pointer (some ⟨b13, 0, none⟩), .int .i8 x, .int .i8 y, .int .i64 x, .int .i64 y, .slice wa rl wcp, .bool true, a20, a21, a22, a23, a24, a25, a26, a27, a28, a29, a30, a31, a32, a33, a34, a35, a36, a37, a38, a39, a40, a41, a42, a43, a44, a45, a46, a47, a48, a49, a50, a51, a52, a53, a54, a55, a56, a57, a58, a59, a60, a61, a62, a63, a64, a65, a66, a67, a68, a69, a70, a71, a72, a73, a74, a75, a76, a77, a78, a79, a80, a81, a82, a83, a84, a85, a86, a87, a88, a89, a90, a91, a92, a93, a94, a95, a96, a97, a98, a99, a100, a101, a102, a103, a104, a105, a106, a107, a108, a109, a110, a111, a112, a113, a114, a115, a116, a117, a118, a119, a120, a121, a122, a123, a124, a125, a126, a127, a128, a129, a130, a131, a132, a133, a134, a135, a136, a137, a138, a139, a140, a141, a142, a143, a144, a145, a146, a147, a148, a149, a150, a151, a152, a153, a154, a155, a156, a157, a158, a159, a160, a161, a162, a163, a164, a165, a166, a167, a168, a169, a170, a171, a172, a173, a174, a175, a176, a177, a178, a179, a180, a181, a182, a183, a184, a185, a186, a187, a188, a189, a190, a191, a192, a193, a194, a195, a196, a197, a198, a199, a200, a201, a202, a203, a204, a205, a206, a207, a208, a209, a210, a211, a212, a213, a214, a215, a216, a217, a218, a219, a220, a221, a222, a223, a224, a225, a226, a227, a228, a229, a230, a231, a232, a233, a234, a235, a236, a237, a238, a239, a240, a241, a242, a243, a244, a245, a246, a247, a248, a249, a250, a251, a252, a253, a254, a255, a256, a257, a258, a259, a260, a261, a262, a263, a264, a265, a266, a267, a268, a269, a270, a271, a272, a273, a274, a275, a276, a277, a278, a279, a280, a281, a282, a283, a284, a285, a286, a287, a288, a289, a290, a291, a292, a293, a294, a295, a296, a297, a298, a299, a300, a301, a302, a303, a304, a305, a306, a307, a308, a309, a310, a311, a312, a313, a314, a315, a316], []⟩ W := by
  conv => arg 2; whnf
  subst hkd
  have q0 := (unhide HS).q0
  obtain ⟨m0, m1⟩ := (unhide HS).m12
  have hkz : (k : Int) < 2 := by have := (unhide HS).hk; omega
  have hkz' : (k' : Int) < 2 := by have := (unhide HS).hk'; omega
  have hk2' : k' < 2 := (unhide HS).hk'
  have hkw := (unhide HS).wrap
  have CA : Hid (∀ q, Calls Try.prog 55 #[.pointer (some ⟨ps, 0, none⟩)] (W.drewN q) fun e w' => ∃ p2, e = .returned (.pointer (some ⟨p2, 0, none⟩)) ∧ (w'.cell? ⟨b12, 0, none⟩ = some (.slice va nk vc) ∧ w'.cell? ⟨b12, 1, none⟩ = some (.int .i64 most)) ∧ ((w'.cell? ⟨g5, k', none⟩ = some (.pointer (some ⟨pt, 0, none⟩)) ∧ ∀ o, w'.frozen? ⟨g5, o, none⟩ = false) ∧ w'.cell? ⟨g6, k' * 2, none⟩ = some (.slice va' nk' vc') ∧ w'.cell? ⟨g6, k' * 2 + 1, none⟩ = some (.int .i64 most) ∧ ∀ o, w'.frozen? ⟨g6, o, none⟩ = false) ∧
      Hid (∃ G', MemK w g5 g6 most (put2 p k' p2) (put2 rs k' (rs k)) (put2 v k' (.slice va nk vc)) (put2 ds k' (ds k)) G' (((w'.setCell ⟨g5, k', none⟩ (.pointer (some ⟨p2, 0, none⟩))).setCell ⟨g6, k' * 2, none⟩ (.slice va nk vc)).setCell ⟨g6, k' * 2 + 1, none⟩ (.int .i64 most)))) := fun q => by
    have hM := (unhide HS).mem.step (below_drewN (Below.refl _ _) q)
    obtain ⟨F, f1, f2⟩ := hM.herd
    have hf := f2 k (unhide HS).hk
    rw [(unhide HS).pk] at hf
    refine (f1.clone hf (by have := ((unhide HS).fair.len (unhide HS).hk).1; have := (unhide HS).i40; omega)).mono ?_
    rintro e w' ⟨p2, rfl, hh⟩
    obtain ⟨k1, k2⟩ := unhide hh
    have g1 := (k2.kept _ _ (unhide HS).g12)
    have g5' := (k2.kept _ _ hM.sets)
    have g6' := (k2.kept _ _ hM.refs)
    have hc := hM.clone (unhide HS).hk (unhide HS).hk' (unhide HS).ne f1 f2 k1 k2
    rw [(unhide HS).vk] at hc
    refine ⟨p2, rfl, ⟨(cell_of_row _ _ 0 _ 62 (0, 0) g1).trans rfl, (cell_of_row _ _ 1 _ 62 (0, 0) g1).trans rfl⟩, ⟨⟨?_, fun o => frozen_of_row _ _ o _ _ g5'⟩, ?_, ?_, fun o => frozen_of_row _ _ o _ _ g6'⟩, hc⟩
    · rw [cell_of_row _ _ _ _ _ _ g5', ← (unhide HS).pk']
      rcases two_of (unhide HS).hk' with e | e <;> rw [e] <;> rfl
    · rw [cell_of_row _ _ _ _ _ _ g6', ← (unhide HS).vk']
      rcases two_of (unhide HS).hk' with e | e <;> rw [e] <;> rfl
    · rw [cell_of_row _ _ _ _ _ _ g6']
      rcases two_of (unhide HS).hk' with e | e <;> rw [e] <;> rfl
  have hn5 : ¬ (b12 = g5) := fun e => by
    have h1 := (unhide HS).g12
    rw [e, (unhide HS).mem.sets] at h1
    injection h1 with h1
    injection h1 with _ h2 _
    exact absurd h2 (by decide)
  have hn6 : ¬ (b12 = g6) := fun e => by
    have h1 := (unhide HS).g12
    rw [e, (unhide HS).mem.refs] at h1
    injection h1 with h1
    injection h1 with h2 _ _
    have := congrArg Array.size h2
    simp at this
  have h56 : ¬ (g5 = g6) := fun e => by
    have h1 := (unhide HS).mem.sets
    rw [e, (unhide HS).mem.refs] at h1
    injection h1 with h1
    injection h1 with _ h2 _
    exact absurd h2 (by decide)
  have h65 : ¬ (g6 = g5) := fun e => h56 e.symm
  have hn5' : ¬ (g5 = b12) := fun e => hn5 e.symm
  have hn6' : ¬ (g6 = b12) := fun e => hn6 e.symm
  go_upto_region 42 with fail
  go_region_held3 (fun u => u.cell? ⟨b12, 0, none⟩ = some (.slice va nk vc) ∧ u.cell? ⟨b12, 1, none⟩ = some (.int .i64 most)) (first | exact ⟨m0, m1⟩ | exact ⟨dd0, dd1⟩ | (go_keep; done)) ((go_at_call 55; refine (unhide CA _).mono ?_; rintro e w' ⟨p2, rfl, ⟨dd0, dd1⟩, ⟨⟨dd2, dd3⟩, dd4, dd5, dd6⟩, hT⟩))
  clear dd0 dd1 dd2 dd3 dd4 dd5 dd6 m0 m1 hn5 hn6 hn5' hn6' h56 h65
  generalize (((w'.setCell ⟨g5, k', none⟩ (.pointer (some ⟨p2, 0, none⟩))).setCell ⟨g6, k' * 2, none⟩ (.slice va nk vc)).setCell ⟨g6, k' * 2 + 1, none⟩ (.int .i64 most)) = W2 at *
  obtain ⟨G2, hM⟩ := unhide hT
  have hz := (hM.cells (unhide HS).hk').1
  rw [put2_self] at hz
  have HM := hide hM
  clear hM hT CA
  have CB : Hid (Calls Try.prog 56 #[.pointer (some ⟨p2, 0, none⟩), .pointer (some ⟨ps, 0, none⟩)] W2 fun e w' => e = .returned (.bool true) ∧ Hid (MemK w g5 g6 most (put2 p k' p2) (put2 rs k' (rs k)) (put2 v k' (.slice va nk vc)) (put2 ds k' (ds k)) G2 w')) := by
    have h := (unhide HM).same (unhide HS).hk' (unhide HS).hk (by rw [put2_self]; have := ((unhide HS).fair.len (unhide HS).hk).1; have := (unhide HS).i40; omega)
    rw [put2_self, put2_other _ _ (unhide HS).ne, put2_self, put2_other _ _ (unhide HS).ne, (unhide HS).pk] at h
    refine h.mono ?_
    rintro e w' ⟨⟨r, rfl, hr⟩, q, rfl⟩
    exact ⟨by rw [hr.2 rfl], (unhide HM).step (below_drewN (Below.refl _ _) q)⟩
  go_wp2_with fail
  refine (unhide CB).mono ?_
  rintro e w3 ⟨rfl, HM3⟩
  go_wp2_with fail
  exact unhide HQ _ _ _ _ _ _ _ _ _ _ _ _ _ _ _ _ _ _ _ _ _ _ _ _ _ _ _ _ _ _ _ _ _ _ _ _ _ _ _ _ _ _ _ _ _ _ _ _ _ _ _ _ _ _ _ _ _ _ _ _ _ _ _ _ _ _ _ _ _ _ _ _ _ _ _ _ _ _ _ _ _ _ _ _ _ _ _ _ _ _ _ _ _ _ _ _ _ _ _ _ _ _ _ _ _ _ _ _ _ _ _ _ _ _ _ _ _ _ _ _ _ _ _ _ _ _ _ _ _ _ _ _ _ _ _ _ _ _ _ _ _ _ _ _ _ _ _ _ _ _ _ _ _ _ _ _ _ _ _ _ _ _ _ _ _ _ _ _ _ _ _ _ _ _ _ _ _ _ _ _ _ _ _ _ _ _ _ _ _ ⟨_, _, _, _, G2, unhide HM3, (unhide HS).fair.clone (unhide HS).hk, by rw [put2_other _ _ (unhide HS).ne]; exact (unhide HS).pk⟩
end Go.Proofs.Ytdalghfhpekcfaa
