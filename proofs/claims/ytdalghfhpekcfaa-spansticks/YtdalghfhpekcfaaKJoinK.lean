/- Join. -/
import Derived.Test.YtdalghfhpekcfaaSwK
import Derived.Test.YtdalghfhpekcfaaTail
namespace Go.Proofs.Ytdalghfhpekcfaa
open Go.RowKit Go.Shelf
variable {w : World} {g5 g6 : Nat} {most : Int} {p : Nat → Nat} {rs : Nat → List (Int × Int)} {v : Nat → Value} {ds : Nat → List Deed} {G : Nat → Option Obj} {W : World} {ob b12 b13 k k' ps pt : Nat} {va va' wa : Option Addr} {nk vc nk' vc' rl wcp : Nat} {kd la ha x y : Int} {sc : Bool} {i : Nat}

/-- refs[k] behind one deed more. -/
theorem MemK.done (h : MemK w g5 g6 most p rs v ds G W) (hk : k < 2) (hv : v k = .slice va nk vc) (hn : (ds k).length ≤ 1000000) (B : Bool) (x y : Int) :
    Calls Try.prog 34 #[.agg #[.slice va nk vc, .int .i64 most], .bool B, .int .i64 x, .int .i64 y] W fun e w' => ∃ (a2 : Option Addr) (c2 : Nat), e = .returned (.agg #[.slice a2 (nk + 1) c2, .int .i64 most]) ∧ (w'.cell? ⟨g6, k * 2, none⟩ = some (.slice va nk vc) ∧ w'.cell? ⟨g6, k * 2 + 1, none⟩ = some (.int .i64 most) ∧ ∀ o, w'.frozen? ⟨g6, o, none⟩ = false) ∧
      Hid (Below W.heap.size W w' ∧ ∃ G2, MemK w g5 g6 most p rs (put2 v k (.slice a2 (nk + 1) c2)) (put2 ds k (ds k ++ [(B, x, y)])) G2 ((w'.setCell ⟨g6, k * 2, none⟩ (.slice a2 (nk + 1) c2)).setCell ⟨g6, k * 2 + 1, none⟩ (.int .i64 most)) ∧ ∀ v' n xs, RowG G 47 2 v' n xs → RowG G2 47 2 v' n xs) := by
  have hact := h.acts hk
  have hnk : nk = (ds k).length := by
    obtain ⟨a, c, e⟩ := (h.rows k hk).shape
    rw [hv] at e
    cases e
    rfl
  rw [hv] at hact
  refine (refDone most B x y W hact hn).mono ?_
  rintro e w' ⟨a2, c2, rfl, hh⟩
  obtain ⟨hrow, hb⟩ := unhide hh
  rw [← hnk] at hrow ⊢
  obtain ⟨m1, m2⟩ := h.snap hb
  obtain ⟨c0, ⟨c1, c3⟩, c4, c5⟩ := m1.cells hk
  rw [hv] at c1
  refine ⟨a2, c2, rfl, ⟨c1, c3, c5⟩, hb, ?_⟩
  have hr : RowG (SnapG G W.heap.size w') 97 3 (.slice a2 (nk + 1) c2) (ds k ++ [(B, x, y)]).length (encD (ds k ++ [(B, x, y)])) := by
    rw [List.length_append, List.length_singleton, ← hnk]
    exact rowG_snap hrow
  obtain ⟨G2, k1, k2⟩ := m1.ref hk hr
  refine ⟨G2, k1, fun v' n xs hx => (hx.mono m2).move (fun g cs hg => k2 g _ (fun e => ?_) hg)⟩
  rw [e, m1.refs] at hg
  cases hg

/-- Amid the loop: j of the other one's runs are put in. -/
def JStK (w : World) (g5 g6 : Nat) (most : Int) (p : Nat → Nat) (rs : Nat → List (Int × Int)) (v : Nat → Value) (ds : Nat → List Deed) (k nk : Nat) (was : Value) (rl : Nat) (jr : Value) (L : Nat) (ss : List (Int × Int)) (j : Nat) (a : Option Addr) (c : Nat) (W : World) : Prop :=
  ∃ G, MemK w g5 g6 most p rs (put2 v k (.slice a (nk + j) c)) (put2 ds k (ds k ++ deedsOf (ss.take j))) G W ∧ RowG G 47 2 was rl (enc .i64 (rs k)) ∧ RowG G 47 2 jr L (enc .i64 ss)

set_option maxHeartbeats 8000000 in
set_option maxRecDepth 100000 in
theorem kJoinK (a0 a1 a2 a3 a4 a20 a21 a22 a23 a24 a25 a26 a27 a28 a29 a30 a31 a32 a33 a34 a35 a36 a37 a38 a39 a40 a41 a42 a43 a44 a45 a46 a47 a48 a49 a50 a51 a52 a53 a54 a55 a56 a57 a58 a59 a60 a61 a62 a63 a64 a65 a66 a67 a68 a69 a70 a71 a72 a73 a74 a75 a76 a77 a78 a79 a80 a81 a82 a83 a84 a85 a86 a87 a88 a89 a90 a91 a92 a93 a94 a95 a96 a97 a98 a99 a100 a101 a102 a103 a104 a105 a106 a107 a108 a109 a110 a111 a112 a113 a114 a115 a116 a117 a118 a119 a120 a121 a122 a123 a124 a125 a126 a127 a128 a129 a130 a131 a132 a133 a134 a135 a136 a137 a138 a139 a140 a141 a142 a143 a144 a145 a146 a147 a148 a149 a150 a151 a152 a153 a154 a155 a156 a157 a158 a159 a160 a161 a162 a163 a164 a165 a166 a167 a168 a169 a170 a171 a172 a173 a174 a175 a176 a177 a178 a179 a180 a181 a182 a183 a184 a185 a186 a187 a188 a189 a190 a191 a192 a193 a194 a195 a196 a197 a198 a199 a200 a201 a202 a203 a204 a205 a206 a207 a208 a209 a210 a211 a212 a213 a214 a215 a216 a217 a218 a219 a220 a221 a222 a223 a224 a225 a226 a227 a228 a229 a230 a231 a232 a233 a234 a235 a236 a237 a238 a239 a240 a241 a242 a243 a244 a245 a246 a247 a248 a249 a250 a251 a252 a253 a254 a255 a256 a257 a258 a259 a260 a261 a262 a263 a264 a265 a266 a267 a268 a269 a270 a271 a272 a273 a274 a275 a276 a277 a278 a279 a280 a281 a282 a283 a284 a285 a286 a287 a288 a289 a290 a291 a292 a293 a294 a295 a296 a297 a298 a299 a300 a301 a302 a303 a304 a305 a306 a307 a308 a309 a310 a311 a312 a313 a314 a315 a316 : Value) (Q : Exit → Act → World → Prop) (HS : Hid (SwK w g5 g6 most p rs v ds G W ob b12 b13 k k' ps pt va va' wa nk vc nk' vc' rl wcp kd la ha x y sc i))
    (HQ : Hid (∀ (b21 b22 b23 b24 b25 b86 b87 b88 b89 b90 b91 b92 b93 b94 b95 b96 b97 b98 b99 b100 b101 b102 b103 b104 b105 b106 b107 b108 b109 b110 b111 b112 b113 b114 b115 b116 b117 b118 b119 b120 b121 b122 b123 b124 b125 b126 b127 b128 b129 b130 b131 b132 b133 b134 b135 b136 b137 b138 b139 b140 b141 b142 b143 b144 b145 b146 b147 b148 b149 b150 b151 b152 b153 b154 b155 b156 b157 b158 b159 b160 b161 b162 b163 b164 b165 b166 b167 b168 b169 b170 b171 b172 b173 b174 b175 b176 b177 b178 b179 b180 b181 b182 b183 b184 b185 b186 b187 b188 b189 b190 b191 b192 b193 b194 b195 b196 b197 b198 b199 b200 b201 b202 b203 b204 b205 b206 b207 b208 b209 b210 b211 b212 b213 b214 b215 b216 b217 b218 b219 b220 b221 b222 b223 b224 b225 b226 b227 b228 b229 b230 b231 b232 b233 b234 b235 b236 b237 b238 b239 b240 b241 b242 b243 b244 b245 b246 b247 b248 b249 b250 b251 b252 b253 b254 b255 b256 b257 b258 b259 b260 b261 b262 b263 b264 b265 b266 b267 b268 : Value) (wq : World), AfterK w g5 g6 most k ps i wq → Q .normal ⟨#[a0, a1, a2, a3, a4, .slice (some ⟨g5, 0, none⟩) 2 2, .slice (some ⟨g6, 0, none⟩) 2 2, .int .i64 i, .pointer (some ⟨ob, 0, none⟩), .int .i64 k, .pointer (some ⟨ps, 0, none⟩), .pointer (some ⟨pt, 0, none⟩), .pointer (some ⟨b12, 0, none⟩), .pointer (some ⟨b13, 0, none⟩), .int .i8 x, .int .i8 y, .int .i64 x, .int .i64 y, .slice wa rl wcp, .bool true, a20, b21, b22, b23, b24, b25, a26, a27, a28, a29, a30, a31, a32, a33, a34, a35, a36, a37, a38, a39, a40, a41, a42, a43, a44, a45, a46, a47, a48, a49, a50, a51, a52, a53, a54, a55, a56, a57, a58, a59, a60, a61, a62, a63, a64, a65, a66, a67, a68, a69, a70, a71, a72, a73, a74, a75, a76, a77, a78, a79, a80, a81, a82, a83, a84, a85, b86, b87, b88, b89, b90, b91, b92, b93, b94, b95, b96, b97, b98, b99, b100, b101, b102, b103, b104, b105, b106, b107, b108, b109, b110, b111, b112, b113, b114, b115, b116, b117, b118, b119, b120, b121, b122, b123, b124, b125, b126, b127, b128, b129, b130, b131, b132, b133, b134, b135, b136, b137, b138, b139, b140, b141, b142, b143, b144, b145, b146, b147, b148, b149, b150, b151, b152, b153, b154, b155, b156, b157, b158, b159, b160, b161, b162, b163, b164, b165, b166, b167, b168, b169, b170, b171, b172, b173, b174, b175, b176, b177, b178, b179, b180, b181, b182, b183, b184, b185, b186, b187, b188, b189, b190, b191, b192, b193, b194, b195, b196, b197, b198, b199, b200, b201, b202, b203, b204, b205, b206, b207, b208, b209, b210, b211, b212, b213, b214, b215, b216, b217, b218, b219, b220, b221, b222, b223, b224, b225, b226, b227, b228, b229, b230, b231, b232, b233, b234, b235, b236, b237, b238, b239, b240, b241, b242, b243, b244, b245, b246, b247, b248, b249, b250, b251, b252, b253, b254, b255, b256, b257, b258, b259, b260, b261, b262, b263, b264, b265, b266, b267, b268, a269, a270, a271, a272, a273, a274, a275, a276, a277, a278, a279, a280, a281, a282, a283, a284, a285, a286, a287, a288, a289, a290, a291, a292, a293, a294, a295, a296, a297, a298, a299, a300, a301, a302, a303, a304, a305, a306, a307, a308, a309, a310, a311, a312, a313, a314, a315, a316], []⟩ wq)) (hkd : kd = 3) :
    Code.wp Try.prog ((Try.f12.body.bind (atRegion 17)).getD .skip) Q ⟨#[a0, a1, a2, a3, a4, .slice (some ⟨g5, 0, none⟩) 2 2, .slice (some ⟨g6, 0, none⟩) 2 2, .int .i64 i, .pointer (some ⟨ob, 0, none⟩), .int .i64 k, .pointer (some ⟨ps, 0, none⟩), .pointer (some ⟨pt, 0, none⟩), .pointer (some ⟨b12, 0, none⟩), .pointer (some ⟨b13, 0, none⟩), .int .i8 x, .int .i8 y, .int .i64 x, .int .i64 y, .slice wa rl wcp, .bool true, a20, a21, a22, a23, a24, a25, a26, a27, a28, a29, a30, a31, a32, a33, a34, a35, a36, a37, a38, a39, a40, a41, a42, a43, a44, a45, a46, a47, a48, a49, a50, a51, a52, a53, a54, a55, a56, a57, a58, a59, a60, a61, a62, a63, a64, a65, a66, a67, a68, a69, a70, a71, a72, a73, a74, a75, a76, a77, a78, a79, a80, a81, a82, a83, a84, a85, a86, a87, a88, a89, a90, a91, a92, a93, a94, a95, a96, a97, a98, a99, a100, a101, a102, a103, a104, a105, a106, a107, a108, a109, a110, a111, a112, a113, a114, a115, a116, a117, a118, a119, a120, a121, a122, a123, a124, a125, a126, a127, a128, a129, a130, a131, a132, a133, a134, a135, a136, a137, a138, a139, a140, a141, a142, a143, a144, a145, a146, a147, a148, a149, a150, a151, a152, a153, a154, a155, a156, a157, a158, a159, a160, a161, a162, a163, a164, a165, a166, a167, a168, a169, a170, a171, a172, a173, a174, a175, a176, a177, a178, a179, a180, a181, a182, a183, a184, a185, a186, a187, a188, a189, a190, a191, a192, a193, a194, a195, a196, a197, a198, a199, a200, a201, a202, a203, a204, a205, a206, a207, a208, a209, a210, a211, a212, a213, a214, a215, a216, a217, a218, a219, a220, a221, a222, a223, a224, a225, a226, a227, a228, a229, a230, a231, a232, a233, a234, a235, a236, a237, a238, a239, a240, a241, a242, a243, a244, a245, a246, a247, a248, a249, a250, a251, a252, a253, a254, a255, a256, a257, a258, a259, a260, a261, a262, a263, a264, a265, a266, a267, a268, a269, a270, a271, a272, a273, a274, a275, a276, a277, a278, a279, a280, a281, a282, a283, a284, a285, a286, a287, a288, a289, a290, a291, a292, a293, a294, a295, a296, a297, a298, a299, a300, a301, a302, a303, a304, a305, a306, a307, a308, a309, a310, a311, a312, a313, a314, a315, a316], []⟩ W := by
  conv => arg 2; whnf
  subst hkd
  have q0 := (unhide HS).q0
  obtain ⟨m0, m1⟩ := (unhide HS).m13
  have hkz : (k : Int) < 2 := by have := (unhide HS).hk; omega
  have hk2 : k < 2 := (unhide HS).hk
  have C1 : Hid (Calls Try.prog 33 #[.agg #[.slice va' nk' vc', .int .i64 most]] W fun e w' => ∃ (ja : Option Addr) (L jc : Nat), e = .returned (.slice ja L jc) ∧ Hid (L = (rs k').length ∧ JStK w g5 g6 most p rs v ds k nk (.slice wa rl wcp) rl (.slice ja L jc) L (rs k') 0 va vc w')) := by
    have hr := (unhide HS).mem.runs (unhide HS).fair (by have := (unhide HS).i40; omega) (unhide HS).mx (unhide HS).hk'
    rw [(unhide HS).vk'] at hr
    refine hr.mono ?_
    rintro e w' ⟨v', rfl, hN⟩
    obtain ⟨a, c, hv⟩ := (unhide hN).shape
    subst hv
    obtain ⟨y1, y2⟩ := (unhide HS).mem.snap (unhide hN).below
    refine ⟨a, _, c, rfl, rfl, SnapG G W.heap.size w', ?_, (unhide HS).row.mono y2, rowG_snap (newR_own (unhide hN))⟩
    rw [Nat.add_zero, ← (unhide HS).vk, put2_same, List.take_zero, show deedsOf [] = [] from rfl, List.append_nil, put2_same]
    exact y1
  go_upto_region 25 with fail
  go_wp2_with fail
  refine (unhide C1).mono ?_
  rintro e w1 ⟨ja, L, jc, rfl, H1⟩
  clear C1 m0 m1
  have HL := hide (unhide H1).1
  have HJ0 := hide (unhide H1).2
  clear H1
  have hL40 : (L : Int) < 41 := by have := ((unhide HS).fair.len (unhide HS).hk').1; have := (unhide HS).i40; have := unhide HL; omega
  go_wp2_with fail
  go_loopw [137] (fun sj wr => ∃ (j : Nat) (a : Option Addr) (c : Nat), j ≤ L ∧ sj = .int .i64 j ∧ Hid (JStK w g5 g6 most p rs v ds k nk (.slice wa rl wcp) rl (.slice ja L jc) L (rs k') j a c wr)) (fun sj _ => L - (intOf sj).toNat)
  case atStart => exact ⟨0, va, vc, Nat.zero_le _, rfl, unhide HJ0⟩
  case round =>
    obtain ⟨j, a, c, hj, rfl, HJ⟩ := hrel
    by_cases hlt : j < L
    · have hltz : (j : Int) < (L : Int) := by omega
      obtain ⟨G1, M1, R1, J1⟩ := unhide HJ
      obtain ⟨g, rfl, d0, d1⟩ : ∃ g, ja = some ⟨g, 0, none⟩ ∧ wr.cell? ⟨g, j * 2, none⟩ = some (.int .i64 (lo (rs k') j)) ∧ wr.cell? ⟨g, j * 2 + 1, none⟩ = some (.int .i64 (hi (rs k') j)) := by
        have hrow := J1.row M1.keep
        rcases hrow.2 with ⟨-, h0⟩ | ⟨g, cap, cur, e, -⟩
        · omega
        · cases e
          exact ⟨g, rfl, owns_cells hrow j hlt⟩
      have HTK : Hid (deedsOf ((rs k').take (j + 1)) = deedsOf ((rs k').take j) ++ [(true, lo (rs k') j, hi (rs k') j)]) := by
        have hlen := unhide HL
        show deedsOf ((rs k').take (j + 1)) = _
        rw [take_next (by omega), deedsOf_snoc]
      generalize hlz : lo (rs k') j = lz at *
      generalize hhz : hi (rs k') j = hz at *
      clear hlz hhz
      have HM1 : Hid (∃ G2, MemK w g5 g6 most p rs (put2 v k (.slice a (nk + j) c)) (put2 ds k (ds k ++ deedsOf ((rs k').take j))) G2 (wr.alloc (.cells #[.int .i64 lz, .int .i64 hz] 47)) ∧ RowG G2 47 2 (.slice wa rl wcp) rl (enc .i64 (rs k)) ∧ RowG G2 47 2 (.slice (some ⟨g, 0, none⟩) L jc) L (enc .i64 (rs k')) ∧ G2 wr.heap.size = some (.cells #[.int .i64 lz, .int .i64 hz] 47 (0, 0))) := by
        obtain ⟨y1, y2⟩ := M1.snap ((Below.refl _ _).alloc (Nat.le_refl _) (.cells #[.int .i64 lz, .int .i64 hz] 47))
        exact ⟨_, y1, R1.mono y2, J1.mono y2, snapG_new (Nat.le_refl _) (heap_alloc_new _ _)⟩
      clear M1 R1 J1 HJ
      go_upto_region 28 with fail
      clear d0 d1
      obtain ⟨bx, hbx⟩ : ∃ bx, bx = wr.heap.size := ⟨_, rfl⟩
      rw [← hbx] at HM1 ⊢
      clear hbx
      generalize (wr.alloc (.cells #[.int .i64 lz, .int .i64 hz] 47)) = W3 at *
      obtain ⟨G2, M2, R2, J2, B2⟩ := unhide HM1
      have x0 : W3.cell? ⟨bx, 0, none⟩ = some (.int .i64 lz) := (cell_of_row _ _ 0 _ 47 (0, 0) (M2.keep _ _ B2)).trans rfl
      have x1 : W3.cell? ⟨bx, 1, none⟩ = some (.int .i64 hz) := (cell_of_row _ _ 1 _ 47 (0, 0) (M2.keep _ _ B2)).trans rfl
      have hc := M2.cells hk2
      rw [put2_self] at hc
      obtain ⟨-, ⟨z0, z1⟩, -, -⟩ := hc
      have CD : Hid (∀ q, Calls Try.prog 34 #[.agg #[.slice a (nk + j) c, .int .i64 most], .bool true, .int .i64 lz, .int .i64 hz] (W3.drewN q) fun e w' => ∃ (a2 : Option Addr) (c2 : Nat), e = .returned (.agg #[.slice a2 (nk + j + 1) c2, .int .i64 most]) ∧ (w'.cell? ⟨g6, k * 2, none⟩ = some (.slice a (nk + j) c) ∧ w'.cell? ⟨g6, k * 2 + 1, none⟩ = some (.int .i64 most) ∧ w'.cell? ⟨bx, 0, none⟩ = some (.int .i64 lz) ∧ w'.cell? ⟨bx, 1, none⟩ = some (.int .i64 hz)) ∧ (∀ o, w'.frozen? ⟨g6, o, none⟩ = false) ∧
          Hid (JStK w g5 g6 most p rs v ds k nk (.slice wa rl wcp) rl (.slice (some ⟨g, 0, none⟩) L jc) L (rs k') (j + 1) a2 c2 ((w'.setCell ⟨g6, k * 2, none⟩ (.slice a2 (nk + j + 1) c2)).setCell ⟨g6, k * 2 + 1, none⟩ (.int .i64 most)))) := fun q => by
        have hM := M2.step (below_drewN (Below.refl _ _) q)
        refine (hM.done (va := a) (nk := nk + j) (vc := c) hk2 (put2_self _ _ _) (by
          rw [put2_self, List.length_append, deedsOf_length, List.length_take]
          have := ((unhide HS).fair.len hk2).2
          have := (unhide HS).i40
          omega) true lz hz).mono ?_
        rintro e w' ⟨a2, c2, rfl, ⟨e1, e2, e3⟩, hh⟩
        obtain ⟨hb, G3, M3, R3⟩ := unhide hh
        have hx0 : (W3.drewN q).cell? ⟨bx, 0, none⟩ = some (.int .i64 lz) := x0
        have hx1 : (W3.drewN q).cell? ⟨bx, 1, none⟩ = some (.int .i64 hz) := x1
        have hx := cells_below ⟨hx0, hx1⟩ hb
        refine ⟨a2, c2, rfl, ⟨e1, e2, hx.1, hx.2⟩, e3, G3, ?_, R3 _ _ _ R2, R3 _ _ _ J2⟩
        rw [put2_put2, put2_put2, put2_self, List.append_assoc, ← unhide HTK] at M3
        exact M3
      clear HM1 M2 R2 J2 B2 HTK
      refine wp_region_noPanic ?_
      refine regionL [12] (fun u => u.cell? ⟨g6, k * 2, none⟩ = some (.slice a (nk + j) c) ∧ u.cell? ⟨g6, k * 2 + 1, none⟩ = some (.int .i64 most) ∧ u.cell? ⟨bx, 0, none⟩ = some (.int .i64 lz) ∧ u.cell? ⟨bx, 1, none⟩ = some (.int .i64 hz)) (by kernel_rfl) ⟨z0, z1, x0, x1⟩ (fun hHeld => ?_)
      refine takeL (i := 0) (v := ?v0) (some 141) rfl rfl (by kernel_rfl) (by kernel_rfl) (by kernel_rfl) (by kernel_rfl) (by kernel_rfl) (fun _ _ _ h => h) (Or.inl ⟨by rfl, ?h0⟩) (by assumption) ?r0
      case h0 => (intro u hSu; (try dsimp only at hSu); go_simp; first | done | with_reducible rfl)
      (try simp only [Act.put, List.setIfInBounds_toArray, List.set_cons_zero, List.set_cons_succ])
      refine takeL (i := 1) (v := ?v1) (some 142) rfl rfl (by kernel_rfl) (by kernel_rfl) (by kernel_rfl) (by kernel_rfl) (by kernel_rfl) (fun _ _ _ h => h) (Or.inl ⟨by rfl, ?h1⟩) (by assumption) ?r1
      case h1 => (intro u hSu; (try dsimp only at hSu); go_simp; first | done | with_reducible rfl)
      (try simp only [Act.put, List.setIfInBounds_toArray, List.set_cons_zero, List.set_cons_succ])
      refine takeL (i := 2) (v := ?v2) (some 143) rfl rfl (by kernel_rfl) (by kernel_rfl) (by kernel_rfl) (by kernel_rfl) (by kernel_rfl) (fun _ _ _ h => h) (Or.inl ⟨by rfl, ?h2⟩) (by assumption) ?r2
      case h2 => (intro u hSu; (try dsimp only at hSu); go_simp; first | done | with_reducible rfl)
      (try simp only [Act.put, List.setIfInBounds_toArray, List.set_cons_zero, List.set_cons_succ])
      refine takeL (i := 3) (v := ?v3) (some 144) rfl rfl (by kernel_rfl) (by kernel_rfl) (by kernel_rfl) (by kernel_rfl) (by kernel_rfl) (fun _ _ _ h => h) (Or.inl ⟨by rfl, ?h3⟩) (by assumption) ?r3
      case h3 => (intro u hSu; (try dsimp only at hSu); go_simp; first | done | with_reducible rfl)
      (try simp only [Act.put, List.setIfInBounds_toArray, List.set_cons_zero, List.set_cons_succ])
      refine takeL (i := 4) (v := ?v4) (some 145) rfl rfl (by kernel_rfl) (by kernel_rfl) (by kernel_rfl) (by kernel_rfl) (by kernel_rfl) (fun _ _ _ h => h) (Or.inl ⟨by rfl, ?h4⟩) (by assumption) ?r4
      case h4 => (intro u hSu; (try dsimp only at hSu); go_simp; first | done | with_reducible rfl)
      (try simp only [Act.put, List.setIfInBounds_toArray, List.set_cons_zero, List.set_cons_succ])
      refine takeL (i := 5) (v := ?v5) (some 146) rfl rfl (by kernel_rfl) (by kernel_rfl) (by kernel_rfl) (by kernel_rfl) (by kernel_rfl) (fun _ _ _ h => h) (Or.inl ⟨by rfl, ?h5⟩) (by assumption) ?r5
      case h5 => (intro u hSu; (try dsimp only at hSu); go_simp; first | done | with_reducible rfl)
      (try simp only [Act.put, List.setIfInBounds_toArray, List.set_cons_zero, List.set_cons_succ])
      refine takeL (i := 6) (v := ?v6) (some 147) rfl rfl (by kernel_rfl) (by kernel_rfl) (by kernel_rfl) (by kernel_rfl) (by kernel_rfl) (fun _ _ _ h => h) (Or.inl ⟨by rfl, ?h6⟩) (by assumption) ?r6
      case h6 => (intro u hSu; (try dsimp only at hSu); go_simp; first | done | with_reducible rfl)
      (try simp only [Act.put, List.setIfInBounds_toArray, List.set_cons_zero, List.set_cons_succ])
      refine takeL (i := 7) (v := ?v7) (some 148) rfl rfl (by kernel_rfl) (by kernel_rfl) (by kernel_rfl) (by kernel_rfl) (by kernel_rfl) (fun _ _ _ h => h) (Or.inl ⟨by rfl, ?h7⟩) (by assumption) ?r7
      case h7 => (intro u hSu; (try dsimp only at hSu); go_simp; first | done | with_reducible rfl)
      (try simp only [Act.put, List.setIfInBounds_toArray, List.set_cons_zero, List.set_cons_succ])
      refine takeL (i := 8) (v := ?v8) (some 149) rfl rfl (by kernel_rfl) (by kernel_rfl) (by kernel_rfl) (by kernel_rfl) (by kernel_rfl) (fun _ _ _ h => h) (Or.inl ⟨by rfl, ?h8⟩) (by assumption) ?r8
      case h8 => (intro u hSu; (try dsimp only at hSu); go_simp; first | done | with_reducible rfl)
      (try simp only [Act.put, List.setIfInBounds_toArray, List.set_cons_zero, List.set_cons_succ])
      refine takeL (i := 9) (v := ?v9) (some 150) rfl rfl (by kernel_rfl) (by kernel_rfl) (by kernel_rfl) (by kernel_rfl) (by kernel_rfl) (fun _ _ _ h => h) (Or.inl ⟨by rfl, ?h9⟩) (by assumption) ?r9
      case h9 => (intro u hSu; (try dsimp only at hSu); go_simp; first | done | with_reducible rfl)
      (try simp only [Act.put, List.setIfInBounds_toArray, List.set_cons_zero, List.set_cons_succ])
      refine readyL (i := 10) (by kernel_rfl) rfl (fun K hK => ?_)
      go_simp
      refine (unhide CD 1).mono ?_
      rintro e w' ⟨a2, c2, rfl, ⟨dd0, dd1, dd2, dd3⟩, dd4, hT⟩
      (try go_wp2_with fail)
      refine hK.out _ _ (fun _ => ⟨dd0, dd1, dd2, dd3⟩) ?_
      clear hK K
      have hHeld2 := And.intro dd0 (And.intro dd1 (And.intro dd2 dd3))
      (try simp only [Act.put, List.setIfInBounds_toArray, List.set_cons_zero, List.set_cons_succ])
      refine takeL (i := 11) (v := ?v11) (some 152) rfl rfl (by kernel_rfl) (by kernel_rfl) (by kernel_rfl) (by kernel_rfl) (by kernel_rfl) (fun _ _ _ h => h) (Or.inl ⟨by rfl, ?h11⟩) (by assumption) ?r11
      case h11 => (intro u hSu; (try dsimp only at hSu); go_simp; first | done | with_reducible rfl)
      (try simp only [Act.put, List.setIfInBounds_toArray, List.set_cons_zero, List.set_cons_succ])
      refine readyL (i := 12) (by kernel_rfl) rfl (fun K hK => ?_)
      go_simp
      (try go_wp2_with fail)
      refine hK.out _ _ (fun h => by cases h) ?_
      clear hK K
      (try simp only [Act.put, List.setIfInBounds_toArray, List.set_cons_zero, List.set_cons_succ])
      refine doneL (by kernel_rfl) ?_ _
      refine NoPanic.normal ?_
      clear dd0 dd1 dd2 dd3 dd4 hHeld2 CD
      go_wp2_with fail
      go_roundw
      case rel => exact ⟨j + 1, a2, c2, by omega, by go_num, unhide hT⟩
      case measure => first | (simp [intOf]; done) | (simp [intOf]; omega)
    · obtain rfl : j = L := by omega
      have HL2 : Hid ((rs k').take j = rs k') := by
        have := unhide HL
        show (rs k').take j = rs k'
        rw [this, List.take_length]
      obtain ⟨G0, M0, R0, -⟩ := unhide HJ
      rw [unhide HL2] at M0
      have hc := M0.cells hk2
      rw [put2_self] at hc
      obtain ⟨-, ⟨z0, z1⟩, -, -⟩ := hc
      have HM0 := hide (And.intro M0 R0)
      clear M0 R0 HJ HJ0 HL HL2
      have hj41 : (j : Int) < 41 := hL40
      clear hL40
      obtain ⟨D, hD⟩ : ∃ D, D = put2 ds k (ds k ++ deedsOf (rs k')) := ⟨_, rfl⟩
      rw [← hD] at HM0
      have HD := hide hD
      clear hD
      obtain ⟨vn, hvn⟩ : ∃ vn : Nat, nk + j = vn := ⟨_, rfl⟩
      rw [hvn] at HM0 z0
      clear hvn
      obtain ⟨St1, hSt1⟩ : ∃ St1 : Bool → List (Int × Int) → World → Prop, St1 = fun r rs' u => MemK w g5 g6 most p (put2 rs k rs') (put2 v k (.slice a vn c)) D G0 u ∧ Fair most (i + 1) (put2 rs k rs') D ∧ (r = true ↔ rs' ≠ rs k) := ⟨_, rfl⟩
      have HSt := hide hSt1
      clear hSt1
      obtain ⟨Pre, hPre⟩ : ∃ Pre : Nat → Bool → List (Int × Int) → World → Prop, Pre = fun z r rs' u => (z = pt ∧ MemK w g5 g6 most p rs (put2 v k (.slice a vn c)) D G0 u) ∨ (z = ps ∧ St1 r rs' u) := ⟨_, rfl⟩
      have HPre := hide hPre
      clear hPre
      obtain ⟨Post, hPost⟩ : ∃ Post : Nat → Bool → List (Int × Int) → Bool → List (Int × Int) → World → Prop, Post = fun z r rs' r2 rs2 u => (z = pt ∧ St1 r2 rs2 u) ∨ (z = ps ∧ r2 = false ∧ St1 r rs' u) := ⟨_, rfl⟩
      have HPost := hide hPost
      clear hPost
      have HZ : Hid (∀ r rs' u, St1 r rs' u → u.cell? ⟨g6, k * 2, none⟩ = some (.slice a vn c) ∧ u.cell? ⟨g6, k * 2 + 1, none⟩ = some (.int .i64 most)) := fun r rs' u h => by
        rw [unhide HSt] at h
        have hc := h.1.cells (unhide HS).hk
        rw [put2_self] at hc
        exact hc.2.1
      have HP0 : Hid (∀ q, Hid (Pre pt true [] (wr.drewN q))) := fun q => by
        show Pre pt true [] (wr.drewN q)
        rw [unhide HPre]
        exact .inl ⟨rfl, (unhide HM0).1.step (below_drewN (Below.refl _ _) q)⟩
      have CJ : Hid (∀ u z r rs', Hid (Pre z r rs' u) → Calls Try.prog 50 #[.pointer (some ⟨ps, 0, none⟩), .pointer (some ⟨z, 0, none⟩)] u fun e w' => ∃ (r2 : Bool) (rs2 : List (Int × Int)), e = .returned (.bool r2) ∧ (w'.cell? ⟨g6, k * 2, none⟩ = some (.slice a vn c) ∧ w'.cell? ⟨g6, k * 2 + 1, none⟩ = some (.int .i64 most)) ∧ Hid (Post z r rs' r2 rs2 w')) := fun u z r rs' hu => by
        have hu := unhide hu
        have h40 := (unhide HS).i40
        have hl := ((unhide HS).fair.len (unhide HS).hk).1
        have hl' := ((unhide HS).fair.len (unhide HS).hk').1
        rw [unhide HPre] at hu
        rcases hu with ⟨rfl, hM⟩ | ⟨rfl, hst⟩
        · obtain ⟨F, f1, f2⟩ := hM.herd
          have hf := f2 k (unhide HS).hk
          have hf' := f2 k' (unhide HS).hk'
          rw [(unhide HS).pk] at hf
          rw [(unhide HS).pk'] at hf'
          refine (f1.joinR hf hf' (by omega) (by omega)).mono ?_
          rintro e w' ⟨r2, rs2, rfl, hh⟩
          obtain ⟨g1, g2, g3, g4, g5x⟩ := unhide hh
          have hm2 : MemK w g5 g6 most p (put2 rs k rs2) (put2 v k (.slice a vn c)) D G0 w' := hM.other (unhide HS).hk f2 (by rw [(unhide HS).pk]; exact g4)
          have hst : St1 r2 rs2 w' := by
            rw [unhide HSt]
            refine ⟨hm2, ?_, g5x⟩
            rw [unhide HD]
            refine (unhide HS).fair.join (unhide HS).hk (unhide HS).hk' (by omega) g1 g2 (fun q hq => ?_)
            obtain ⟨t, ht, rfl⟩ := List.mem_iff_getElem.1 hq
            have hft := (f1.get hf').2 t ht
            simp only [lo, hi, List.getD_eq_getElem?_getD, List.getElem?_eq_getElem ht, Option.getD_some] at hft
            rw [(unhide HS).mx]
            omega
          refine ⟨r2, rs2, rfl, unhide HZ _ _ _ hst, ?_⟩
          show Post _ _ _ _ _ _
          rw [unhide HPost]
          exact .inl ⟨rfl, hst⟩
        · have h := hst
          rw [unhide HSt] at h
          obtain ⟨F, f1, f2⟩ := h.1.herd
          have hf := f2 k (unhide HS).hk
          have hl2 := (h.2.1.len (unhide HS).hk).1
          rw [put2_self] at hf hl2
          rw [(unhide HS).pk] at hf
          refine (f1.joinR hf hf (by omega) (by omega)).mono ?_
          rintro e w' ⟨r2, rs2, rfl, hh⟩
          obtain ⟨g1, g2, g3, g4, g5x⟩ := unhide hh
          have he : rs2 = rs' := canon_ext _ _ g1 (f1.get hf).1 (fun x => by rw [g2 x]; exact or_self_iff)
          have hr2 : r2 = false := by
            cases r2 with
            | false => rfl
            | true => exact absurd he (g5x.1 rfl)
          have hm2 : MemK w g5 g6 most p (put2 (put2 rs k rs') k rs2) (put2 v k (.slice a vn c)) D G0 w' := h.1.other (unhide HS).hk f2 (by rw [(unhide HS).pk]; exact g4)
          rw [put2_put2, he] at hm2
          have hst2 : St1 r rs' w' := by
            rw [unhide HSt]
            exact ⟨hm2, h.2⟩
          refine ⟨r2, rs2, rfl, unhide HZ _ _ _ hst2, ?_⟩
          show Post _ _ _ _ _ _
          rw [unhide HPost]
          exact .inr ⟨rfl, hr2, hst2⟩
      have CB : Hid (∀ u r0 rs0 r rs', Hid (Post pt r0 rs0 r rs' u) → Calls Try.prog 33 #[.agg #[.slice a vn c, .int .i64 most]] u fun e w' => ∃ (a9 : Option Addr) (n9 c9 : Nat), e = .returned (.slice a9 n9 c9) ∧ (w'.cell? ⟨g6, k * 2, none⟩ = some (.slice a vn c) ∧ w'.cell? ⟨g6, k * 2 + 1, none⟩ = some (.int .i64 most)) ∧ Hid (St1 r rs' w' ∧ w'.ownsRow 0 47 2 (.slice a9 n9 c9) rs'.length (enc .i64 rs'))) := fun u r0 rs0 r rs' hu => by
        have hp := unhide hu
        rw [unhide HPost] at hp
        have h : St1 r rs' u := hp.elim (fun h => h.2) (fun h => absurd h.1 (unhide HS).apart)
        rw [unhide HSt] at h
        have h40 := (unhide HS).i40
        have hr := h.1.runs h.2.1 (by omega) (unhide HS).mx (unhide HS).hk
        rw [put2_self, put2_self] at hr
        refine hr.mono ?_
        rintro e w' ⟨v', rfl, hN⟩
        obtain ⟨a9, c9, hv⟩ := (unhide hN).shape
        subst hv
        have hst : St1 r rs' w' := by
          rw [unhide HSt]
          exact ⟨h.1.step (unhide hN).below, h.2⟩
        exact ⟨a9, _, c9, rfl, unhide HZ _ _ _ hst, hst, (unhide hN).row⟩
      have CC : Hid (∀ u r rs' a9 n9 c9, Hid (St1 r rs' u ∧ u.ownsRow 0 47 2 (.slice a9 n9 c9) rs'.length (enc .i64 rs')) → Calls Try.prog 26 #[.slice wa rl wcp, .slice a9 n9 c9] u fun e w' => e = .returned (.bool (!r)) ∧ (w'.cell? ⟨g6, k * 2, none⟩ = some (.slice a vn c) ∧ w'.cell? ⟨g6, k * 2 + 1, none⟩ = some (.int .i64 most)) ∧ Hid (Pre ps r rs' w')) := fun u r rs' a9 n9 c9 hu => by
        obtain ⟨h, hrow⟩ := unhide hu
        rw [unhide HSt] at h
        have hl := ((unhide HS).fair.len (unhide HS).hk).1
        have h40 := (unhide HS).i40
        have hw := (unhide HM0).2.row h.1.keep
        rw [← (unhide HS).len] at hw ⊢
        refine (sameR u hw hrow (by omega)).mono ?_
        rintro e w' ⟨⟨s, rfl, hs⟩, q, rfl⟩
        have hst : St1 r rs' (u.drewN q) := by
          rw [unhide HSt]
          exact ⟨h.1.step (below_drewN (Below.refl _ _) q), h.2⟩
        have e1 : s = !r := by
          rw [Bool.eq_iff_iff, hs, Bool.not_eq_true', ← Bool.not_eq_true, h.2.2]
          exact ⟨fun e h => h e.symm, fun h => (Classical.byContradiction h).symm⟩
        refine ⟨by rw [e1], unhide HZ _ _ _ hst, ?_⟩
        show Pre _ _ _ _
        rw [unhide HPre]
        exact .inr ⟨rfl, hst⟩
      clear HM0 HZ HPre HD
      go_upto_region 30 with fail
      go_region_held3 (fun u => u.cell? ⟨g6, k * 2, none⟩ = some (.slice a vn c) ∧ u.cell? ⟨g6, k * 2 + 1, none⟩ = some (.int .i64 most)) (first | exact ⟨z0, z1⟩ | exact ⟨dd0, dd1⟩ | (go_keep; done)) (first | (go_at_call 50; refine (unhide CJ _ _ _ _ (by first | assumption | exact unhide HP0 _)).mono ?_; rintro e w' ⟨r2, rs2, rfl, ⟨dd0, dd1⟩, hT⟩) | (go_at_call 33; refine (unhide CB _ _ _ _ _ (by assumption)).mono ?_; rintro e w' ⟨a9, n9, c9, rfl, ⟨dd0, dd1⟩, hT⟩) | (go_at_call 26; refine (unhide CC _ _ _ _ _ _ (by assumption)).mono ?_; rintro e w' ⟨rfl, ⟨dd0, dd1⟩, hT⟩))
      have hp := unhide hT
      rw [unhide HPost] at hp
      obtain ⟨rfl, hst⟩ := hp.elim (fun h => absurd h.1.symm (unhide HS).apart) (fun h => h.2)
      rw [unhide HSt] at hst
      have HST := hide hst
      clear hst hp hT
      go_wp2_with fail
      exact unhide HQ _ _ _ _ _ _ _ _ _ _ _ _ _ _ _ _ _ _ _ _ _ _ _ _ _ _ _ _ _ _ _ _ _ _ _ _ _ _ _ _ _ _ _ _ _ _ _ _ _ _ _ _ _ _ _ _ _ _ _ _ _ _ _ _ _ _ _ _ _ _ _ _ _ _ _ _ _ _ _ _ _ _ _ _ _ _ _ _ _ _ _ _ _ _ _ _ _ _ _ _ _ _ _ _ _ _ _ _ _ _ _ _ _ _ _ _ _ _ _ _ _ _ _ _ _ _ _ _ _ _ _ _ _ _ _ _ _ _ _ _ _ _ _ _ _ _ _ _ _ _ _ _ _ _ _ _ _ _ _ _ _ _ _ _ _ _ _ _ _ _ _ _ _ _ _ _ _ _ _ _ _ _ _ _ _ _ _ _ _ ⟨p, _, _, _, G0, (unhide HST).1, (unhide HST).2.1, (unhide HS).pk⟩
end Go.Proofs.Ytdalghfhpekcfaa
