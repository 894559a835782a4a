/- CheckWalks from region 29 on (made by mkw172.py). -/
import Derived.Test.YtagibmgbjhemkaaGreatWe17
namespace Go.Proofs.YtagibmgbjhemkaaGreat
open Go.RowKit Go.Maps
open W16 (WtV Lies u8v i64v dec decV DecAns)
set_option maxHeartbeats 16000000 in
set_option maxRecDepth 100000 in
theorem wlk29 [Inhabited EntI] {w wr w1 : World} {X : Sto} {n : Nat} {g : Gr} {vs : List Int} {gs : List EdgeV} {ps : List (EdgeV × Bool)} {a1 a2 ga ba1 : Option Addr} {m1 q1 m2 q2 b8 gn gc cs bn1 bc1 : Nat} {rd wr0 r from_ en : Int} {l : List Int} {d : List EdgeV} (t0 t2 t3 t4 t5 t6 t9 t13 t14 t16 t17 t18 t19 t20 t21 t22 t23 t24 t25 t26 t27 t28 t29 t30 t31 t32 t33 t34 t35 t36 t37 t38 t39 t40 t41 t42 t43 t44 t45 t46 t47 t48 t49 t50 t51 t52 t53 t54 t55 t56 t57 t58 t59 t60 t61 t62 t63 t64 t65 t66 t67 t68 t69 t70 t71 t72 t73 t74 t75 t76 t77 t78 t79 t80 t81 t82 t83 t84 t85 t86 t87 t88 t89 t90 t91 t92 t93 t94 t95 t96 t97 t98 t99 t100 t101 t102 t103 t104 t105 t106 t107 t108 t109 t110 t111 t112 t113 t114 t115 t116 t117 t118 t119 t120 t121 t122 t123 t124 t125 t126 t127 t128 t129 t130 t131 t132 t133 t134 t135 t136 t137 t138 t139 t140 t141 t142 t143 t144 t145 t146 t147 t148 t149 t150 t151 t152 t153 t154 t155 t156 t157 t158 t159 t160 t161 t162 t163 t164 t165 t166 t167 t168 t169 t170 t171 t172 t173 t174 t175 t176 t177 t178 t179 t180 t181 t182 t183 t184 t185 t186 t187 t188 t189 t190 t191 t192 t193 t194 t195 t196 t197 t198 t199 t200 t201 t202 t203 t204 t205 t206 t207 t208 t209 t210 t211 t212 t213 t214 t215 t216 t217 t218 t219 t220 t221 t222 t223 t224 t225 t226 t227 t228 t229 t230 t231 t232 t233 t234 t235 t236 t237 t238 t239 t240 t241 t242 t243 t244 t245 t246 t247 t248 t249 t250 t251 t252 t253 t254 t255 t256 t257 t258 t259 t260 t261 t262 t263 t264 t265 t266 t267 t268 t269 t270 t271 t272 t273 t274 t275 t276 t277 t278 t279 t280 t281 t282 t283 t284 t285 t286 t287 t288 t289 t290 t291 t292 t293 t294 t295 t296 t297 t298 t299 t300 t301 t302 t303 t304 t305 t306 t307 t308 t309 t310 t311 t312 t313 t314 t315 t316 t317 : Value) (Q : Exit → Act → World → Prop)
    (HP : Hid (PF ps vs gs)) (HG : Hid (Game n X g (.slice a1 m1 q1) (.slice a2 m2 q2) vs gs w1)) (HEN : Hid (en = endOf from_ d ∧ cs = costOf d ∧ from_ ∈ vs ∧ en ∈ vs ∧ cs ≤ 2139095040)) (HG2 : Hid (∀ f t u (l' : List Int), f ∈ vs → t ∈ vs → u < 4294967296 → l'.length ≤ 60 → (∀ e ∈ l', e ∈ l) → W16.Good (f, t, u, l')))
    (HL60 : Hid (l.length ≤ 60)) (HGN : Hid (gn = l.length)) (HW : Hid (Way ps from_ l d)) (HG0 : Hid (W16.Good (from_, en, cs, l))) (HRF : Hid (0 ≤ r ∧ r ≤ 39000)) (HKF : Hid (KG [(b8, oG (.slice a1 m1 q1) (.slice a2 m2 q2) rd wr0)] [(.slice ga gn gc, l)] (.slice ba1 bn1 bc1) (W16.encWt (from_, en, cs, l)) w X r ps (.slice a1 m1 q1) (.slice a2 m2 q2) vs gs wr))
    (HQ : Hid (∀ (b20 b22 b32 b33 b34 b35 b36 b37 b38 b233 b234 b235 b236 b237 b238 b239 b240 b241 b242 b243 b244 b245 b246 b247 b248 b249 b250 b251 b252 b253 b254 b255 b256 b257 b258 b259 b260 b261 b262 b263 b264 b265 b266 b267 b268 b269 b270 b271 b272 b273 b274 b275 b276 b277 b278 b279 b280 b281 b282 b283 b284 b285 b286 b287 b288 b289 b290 b291 b292 b293 b294 b295 b296 b297 b298 b299 b300 b301 b302 b303 b304 b305 b306 b307 b308 b309 b310 b311 b312 b313 b314 b315 b316 b317 : Value) (wz : World), Below w.heap.size w wz → Q .ret ⟨#[t0, .int .i64 from_, t2, t3, t4, t5, .bool true, .pointer (some ⟨X.s, 0, none⟩), .pointer (some ⟨b8, 0, none⟩), t9, .slice ga gn gc, .int .i64 en, .int .u32 cs, t13, t14, .slice ba1 bn1 bc1, t16, t17, t18, t19, b20, t21, b22, t23, t24, t25, t26, t27, t28, t29, t30, t31, b32, b33, b34, b35, b36, b37, b38, t39, t40, t41, t42, t43, t44, t45, t46, t47, t48, t49, t50, t51, t52, t53, t54, t55, t56, t57, t58, t59, t60, t61, t62, t63, t64, t65, t66, t67, t68, t69, t70, t71, t72, t73, t74, t75, t76, t77, t78, t79, t80, t81, t82, t83, t84, t85, t86, t87, t88, t89, t90, t91, t92, t93, t94, t95, t96, t97, t98, t99, t100, t101, t102, t103, t104, t105, t106, t107, t108, t109, t110, t111, t112, t113, t114, t115, t116, t117, t118, t119, t120, t121, t122, t123, t124, t125, t126, t127, t128, t129, t130, t131, t132, t133, t134, t135, t136, t137, t138, t139, t140, t141, t142, t143, t144, t145, t146, t147, t148, t149, t150, t151, t152, t153, t154, t155, t156, t157, t158, t159, t160, t161, t162, t163, t164, t165, t166, t167, t168, t169, t170, t171, t172, t173, t174, t175, t176, t177, t178, t179, t180, t181, t182, t183, t184, t185, t186, t187, t188, t189, t190, t191, t192, t193, t194, t195, t196, t197, t198, t199, t200, t201, t202, t203, t204, t205, t206, t207, t208, t209, t210, t211, t212, t213, t214, t215, t216, t217, t218, t219, t220, t221, t222, t223, t224, t225, t226, t227, t228, t229, t230, t231, t232, b233, b234, b235, b236, b237, b238, b239, b240, b241, b242, b243, b244, b245, b246, b247, b248, b249, b250, b251, b252, b253, b254, b255, b256, b257, b258, b259, b260, b261, b262, b263, b264, b265, b266, b267, b268, b269, b270, b271, b272, b273, b274, b275, b276, b277, b278, b279, b280, b281, b282, b283, b284, b285, b286, b287, b288, b289, b290, b291, b292, b293, b294, b295, b296, b297, b298, b299, b300, b301, b302, b303, b304, b305, b306, b307, b308, b309, b310, b311, b312, b313, b314, b315, b316, b317], []⟩ wz)) :
    Code.wp Tryz.prog ((Tryz.f5.body.bind (fromRegion 29)).getD .skip) Q ⟨#[t0, .int .i64 from_, t2, t3, t4, t5, t6, .pointer (some ⟨X.s, 0, none⟩), .pointer (some ⟨b8, 0, none⟩), t9, .slice ga gn gc, .int .i64 en, .int .u32 cs, t13, t14, .slice ba1 bn1 bc1, t16, t17, t18, t19, t20, t21, t22, t23, t24, t25, t26, t27, t28, t29, t30, t31, t32, t33, t34, t35, t36, t37, t38, t39, t40, t41, t42, t43, t44, t45, t46, t47, t48, t49, t50, t51, t52, t53, t54, t55, t56, t57, t58, t59, t60, t61, t62, t63, t64, t65, t66, t67, t68, t69, t70, t71, t72, t73, t74, t75, t76, t77, t78, t79, t80, t81, t82, t83, t84, t85, t86, t87, t88, t89, t90, t91, t92, t93, t94, t95, t96, t97, t98, t99, t100, t101, t102, t103, t104, t105, t106, t107, t108, t109, t110, t111, t112, t113, t114, t115, t116, t117, t118, t119, t120, t121, t122, t123, t124, t125, t126, t127, t128, t129, t130, t131, t132, t133, t134, t135, t136, t137, t138, t139, t140, t141, t142, t143, t144, t145, t146, t147, t148, t149, t150, t151, t152, t153, t154, t155, t156, t157, t158, t159, t160, t161, t162, t163, t164, t165, t166, t167, t168, t169, t170, t171, t172, t173, t174, t175, t176, t177, t178, t179, t180, t181, t182, t183, t184, t185, t186, t187, t188, t189, t190, t191, t192, t193, t194, t195, t196, t197, t198, t199, t200, t201, t202, t203, t204, t205, t206, t207, t208, t209, t210, t211, t212, t213, t214, t215, t216, t217, t218, t219, t220, t221, t222, t223, t224, t225, t226, t227, t228, t229, t230, t231, t232, t233, t234, t235, t236, t237, t238, t239, t240, t241, t242, t243, t244, t245, t246, t247, t248, t249, t250, t251, t252, t253, t254, t255, t256, t257, t258, t259, t260, t261, t262, t263, t264, t265, t266, t267, t268, t269, t270, t271, t272, t273, t274, t275, t276, t277, t278, t279, t280, t281, t282, t283, t284, t285, t286, t287, t288, t289, t290, t291, t292, t293, t294, t295, t296, t297, t298, t299, t300, t301, t302, t303, t304, t305, t306, t307, t308, t309, t310, t311, t312, t313, t314, t315, t316, t317], []⟩ wr := by
  conv => arg 2; whnf
  cases l with
  | nil =>
    obtain rfl : gn = 0 := unhide HGN; have hd : d = [] := unhide HW; obtain ⟨h1, h2, -⟩ := unhide HEN; obtain rfl : from_ = en := by rw [h1, hd]; rfl
    obtain rfl : cs = 0 := by rw [h2, hd]; rfl
    have HE := hide (unhide HKF).1.bel; clear hd h1 h2
    go_wp2_with fail
    exact unhide HQ _ _ _ _ _ _ _ _ _ _ _ _ _ _ _ _ _ _ _ _ _ _ _ _ _ _ _ _ _ _ _ _ _ _ _ _ _ _ _ _ _ _ _ _ _ _ _ _ _ _ _ _ _ _ _ _ _ _ _ _ _ _ _ _ _ _ _ _ _ _ _ _ _ _ _ _ _ _ _ _ _ _ _ _ _ _ _ _ _ _ _ _ _ _ _ (unhide HE)
  | cons e0 l0 =>
    obtain ⟨gm, hgm⟩ : ∃ gm, gm = l0.length := ⟨_, rfl⟩; obtain rfl : gn = gm + 1 := by have h := unhide HGN; rw [hgm]; exact h
    have hrw := (unhide HKF).getr (v := .slice ga (gm + 1) gc) (ks := e0 :: l0) (by simp)
    obtain ⟨gg, rfl⟩ : ∃ gg, ga = some ⟨gg, 0, none⟩ := W16.rrow_some hrw (by simp)
    have hgc : gm + 1 ≤ gc := row_cap17 hrw; have HKG := hide ((unhide HKF).rowtake (g := gg) (n := gm + 1) (c := gc) (ks := e0 :: l0) (m := gm) (by simp) (Nat.le_succ _))
    have ht2 := way_take (unhide HW) gm; obtain ⟨l', hl'⟩ : ∃ l', l' = (e0 :: l0).take gm := ⟨_, rfl⟩; have hmem : ∀ e ∈ l', e ∈ e0 :: l0 := fun e he => by rw [hl'] at he; exact List.mem_of_mem_take he
    have hlen : l'.length ≤ 60 := by
      have := unhide HL60; rw [hl', List.length_take]; omega
    rw [← hl'] at HKG ht2; obtain ⟨d', hd'⟩ : ∃ d', d' = (trip ps from_ l').1 := ⟨_, rfl⟩; have htr : trip ps from_ l' = (d', none) := by rw [hd']; exact Prod.ext rfl ht2.2
    rw [← hd'] at ht2; have HW2 : Hid (Way ps from_ l' d' ∧ trip ps from_ l' = (d', none)) := ⟨ht2.1, htr⟩; have g9 : W16.Good (from_, en, cs, l') := unhide HG2 _ _ _ _ (unhide HEN).2.2.1 (unhide HEN).2.2.2.1 (by have := (unhide HEN).2.2.2.2; omega) hlen hmem
    have HG9 := hide g9; have HLN2 := hide hlen; have HGC : Hid (gm + 1 ≤ gc ∧ gm ≤ 60) := ⟨hgc, by have := unhide HL60; simp at this; omega⟩
    have z1 : ((gm : Int) + 1 == 0) = false := by simp; omega
    have z2 : IntKind.i64.wrap ((gm : Int) + 1 - 1) = (gm : Int) := by rw [IntKind.wrap_i64]; have := (unhide HGC).2; omega
    have z2b : wrap64 ((gm : Int) + 1 - 1) = (gm : Int) := by have := (unhide HGC).2; unfold wrap64; omega
    have z2c : wrap64 (gm : Int) = (gm : Int) := by have := (unhide HGC).2; unfold wrap64; omega
    have z2d : IntKind.i64.wrap (gm : Int) = (gm : Int) := by rw [IntKind.wrap_i64]; have := (unhide HGC).2; omega
    have z3 : gm ≤ gc := by omega
    clear hrw hgc hl' hmem hlen hd' htr ht2 g9 hgm HKF
    go_upto_region 31 with fail
    have CE := hide (W16.encodeS from_ en cs (W16.nrow_lies ((unhide HKG).getr (v := .slice (some ⟨gg, 0, none⟩) gm gc) (ks := l') (by simp))) (unhide HG9).2.2.2.1)
    go_wp2_with fail
    refine (unhide CE).mono ?_; intro e we9 hE; obtain ⟨bv9, rfl, b1, b2⟩ := unhide hE; rw [show W16.errC (from_, en, cs, l') = 0 from W16.errC_good (unhide HG9)]
    rw [show W16.encV (from_, en, cs, l') = W16.encWt (from_, en, cs, l') from if_pos (W16.errC_good (unhide HG9))] at b1
    obtain ⟨ba9, bc9, hbv⟩ := W16.rrow_shape b1; obtain ⟨bn9, hbn9⟩ : ∃ bn, bn = (W16.encWt (from_, en, cs, l')).length := ⟨_, rfl⟩; rw [← hbn9] at hbv; clear hbn9; subst hbv; have HKH := hide ((unhide HKG).below b2); have HBY := hide b1; clear CE hE b1 b2 HKG
    go_upto_region 32 with fail
    have hch := chk_enc (V := fun k => decide (k ∈ vs)) (ps := ps) (unhide HG9)
    have CK := hide (kgCheck (unhide HP) (unhide HKH) (W16.byrow_lies (unhide HBY)) (W16.enc_byte _) (by have := W16.enc_len (unhide HG9); omega) (fun g e => ((unhide HBY).lt g e).2) (unhide HRF).1 (by have := (unhide HRF).2; omega))
    rw [show (decV (W16.encWt (from_, en, cs, l'))) = ((from_, en, cs, l'), 0) from decV_some (W16.dec_enc (unhide HG9))] at CK
    obtain ⟨C10, hC10⟩ : ∃ C, C = chkA (fun k => decide (k ∈ vs)) ps (W16.encWt (from_, en, cs, l')) := ⟨_, rfl⟩
    rw [← hC10] at CK hch; obtain ⟨⟨F10, T10, u10, es10⟩, pl10, cd10⟩ := C10; have hcd := hch.1; have hcx := hch.2; simp only at hcd hcx; clear hC10 hch; rw [decide_eq_true (unhide HEN).2.2.1, decide_eq_true (unhide HEN).2.2.2.1, (unhide HW2).2] at hcd; have HCD : Hid ((endOf from_ d' ≠ en → cd10 = 170) ∧ (endOf from_ d' = en → costOf d' ≠ cs → cd10 = 171) ∧ (endOf from_ d' = en → costOf d' = cs → cd10 = 0)) :=
      ⟨fun z => by rw [hold_end z] at hcd; exact congrArg (·.2) hcd, fun z1 z2 => by rw [hold_cost z1 z2] at hcd; exact congrArg (·.2) hcd, fun z1 z2 => by rw [hold_all z1 z2] at hcd; exact congrArg (·.2) hcd⟩
    clear hcd hcx
    go_wp2_with fail
    refine (unhide CK).mono ?_; intro e y10 H6; obtain ⟨ev, k, rfl, k1, hK6⟩ := unhide H6; simp only at hK6 k1 ⊢; obtain ⟨ea10, ec10, hev⟩ := W16.rrow_shape (hK6.getr (List.mem_cons_self ..)); obtain ⟨en10, hen⟩ : ∃ en10, en10 = es10.length := ⟨_, rfl⟩; rw [← hen] at hev; clear hen; subst hev; obtain ⟨rd10, hrd10⟩ : ∃ rd10, rd10 = r + (k : Int) := ⟨_, rfl⟩; rw [← hrd10] at hK6; have HB10 : Hid (0 ≤ rd10 ∧ rd10 ≤ 40000) := by
      have h1 := unhide HRF; have h2 := (unhide HLN2); exact ⟨by omega, by omega⟩
    clear CK H6 k1 hrd10 HRF; have HKJ := hide (hK6.box (oWt F10 T10 u10 (.slice ea10 en10 ec10))); clear hK6 HKH HBY HG9
    go_upto_region 33 with fail
    change Code.wp _ _ _ _ (y10.alloc (oWt F10 T10 u10 (.slice ea10 en10 ec10))); generalize y10.alloc (oWt F10 T10 u10 (.slice ea10 en10 ec10)) = w33 at *; generalize y10.heap.size = b32 at *; have HCELL : Hid (∀ W, Below w33.heap.size w33 W → W.cell? ⟨b8, 0, none⟩ = some (.slice a1 m1 q1) ∧ W.cell? ⟨b8, 1, none⟩ = some (.slice a2 m2 q2) ∧ W.cell? ⟨b8, 2, none⟩ = some (.int .i64 rd) ∧ W.cell? ⟨b8, 3, none⟩ = some (.int .i64 wr0)) := fun W hW => by
      obtain ⟨c0, c1, c2, c3, -⟩ := cellsG (((unhide HKJ).below hW).get (b := b8) (o := oG (.slice a1 m1 q1) (.slice a2 m2 q2) rd wr0) (by simp))
      exact ⟨c0, c1, c2, c3⟩
    have CTh : Hid (∀ W, Below w33.heap.size w33 W → Calls Tryz.prog 24 #[.agg #[.slice a1 m1 q1, .slice a2 m2 q2, .int .i64 rd, .int .i64 wr0], .int .i64 from_, .slice (some ⟨gg, 0, none⟩) gm gc] W fun e w' => ∃ sg sm sc : Nat, e = .returned (.tuple #[.slice (some ⟨sg, 0, none⟩) (sm + 1) sc, .int .i64 0, .int .i64 0]) ∧ Hid (Below w33.heap.size w33 w' ∧ sm ≤ 3000 ∧ ∀ W', Below w'.heap.size w' W' → W'.cell? ⟨sg, sm, none⟩ = some (.int .i64 (endOf from_ d')))) := fun W hW => by
      have := kgThrough (unhide HP) ((unhide HKJ).below hW) (rd' := rd) (wr' := wr0) from_ (v := .slice (some ⟨gg, 0, none⟩) gm gc) (ks := l') (by simp) (by have := unhide HLN2; omega) (by rw [(unhide HW2).2])
      rw [(unhide HW2).2] at this; refine this.mono ?_
      rintro e w' ⟨sg, sm, sc, rfl, hh⟩
      obtain ⟨h1, h2, h3⟩ := unhide hh; exact ⟨sg, sm, sc, rfl, hW.trans (h1.mono hW.size), h2, h3⟩
    have CCo : Hid (∀ W, Below w33.heap.size w33 W → Calls Tryz.prog 25 #[.agg #[.slice a1 m1 q1, .slice a2 m2 q2, .int .i64 rd, .int .i64 wr0], .slice (some ⟨gg, 0, none⟩) gm gc] W fun e w' => e = .returned (.int .u32 (costOf d')) ∧ Hid (Below w33.heap.size w33 w' ∧ Below W.heap.size W w')) := fun W hW => by
      refine (kgCost (unhide HP) ((unhide HKJ).below hW) (rd' := rd) (wr' := wr0) from_ (v := .slice (some ⟨gg, 0, none⟩) gm gc) (ks := l') (by simp) (by have := unhide HLN2; omega) (unhide HW2).1).mono ?_
      rintro e w' ⟨rfl, hh⟩
      exact ⟨rfl, hW.trans ((unhide hh).mono hW.size), unhide hh⟩
    have CDr : Hid (∀ W, Below w33.heap.size w33 W → W.cell? ⟨gg, 0, none⟩ = some (.int .i64 e0) ∧ Calls Tryz.prog 26 #[.pointer (some ⟨X.s, 0, none⟩), .int .i64 e0] W fun r w' => (∃ x : EdgeV, r = .returned (.tuple #[.agg #[.int .i64 x.1, .int .i64 x.2.1, .int .i64 x.2.2.1, .int .u32 x.2.2.2], .int .i64 0])) ∧ Hid (Calls Tryz.prog 11 #[.iface 24 (.pointer (some ⟨X.s, 0, none⟩)), .slice ba1 bn1 bc1] w' fun e w2 => ∃ (F T : Int) (u' : Nat) (ev : Value), e = .returned (.tuple #[.agg #[.int .i64 F, .int .i64 T, .int .u32 (u' : Nat), ev], .int .i64 0, .int .i64 6]) ∧ Hid (Below w.heap.size w w2))) := fun W hW => by
      have hk := (unhide HKJ).below hW; refine ⟨?_, kgDrop (unhide HG) (unhide HP) (unhide HG0) hk (unhide HW) (unhide HEN).2.2.1 (unhide HEN).2.2.2.1 (unhide HB10).1 (by have := (unhide HB10).2; omega)⟩
      have := W16.rrow_at W16.kitN (hk.getr (v := .slice (some ⟨gg, 0, none⟩) (gm + 1) gc) (ks := e0 :: l0) (by simp)) (i := 0) (x := e0) rfl (j := 0) rfl
      simpa using this
    clear HKJ HB10 HG0 HG2; have hS0 := unhide HCELL w33 (Below.refl _ _); refine wp_region_noPanic ?_; refine regionL [] (fun y => y.cell? ⟨b8, 0, none⟩ = some (.slice a1 m1 q1) ∧ y.cell? ⟨b8, 1, none⟩ = some (.slice a2 m2 q2) ∧ y.cell? ⟨b8, 2, none⟩ = some (.int .i64 rd) ∧ y.cell? ⟨b8, 3, none⟩ = some (.int .i64 wr0)) (by kernel_rfl) hS0 (fun hHeld => ?_)
    refine takeN 0 265 rfl ?_
    (try simp only [sl])
    refine takeN 1 266 rfl ?_
    (try simp only [sl])
    refine takeN 2 267 rfl ?_
    (try simp only [sl])
    refine takeN 3 268 rfl ?_
    (try simp only [sl])
    refine takeN 4 269 rfl ?_
    (try simp only [sl])
    refine takeN 5 270 rfl ?_
    (try simp only [sl])
    refine takeN 6 271 rfl ?_
    (try simp only [sl])
    refine readyL (i := 7) (by kernel_rfl) rfl (fun K hK => ?_)
    go_simp
    refine (unhide CTh _ ((Below.refl _ _).drew)).mono ?_
    rintro e w34 ⟨sg, sm, sc, rfl, H34⟩
    have hS34 := unhide HCELL w34 (unhide H34).1
    (try dsimp only)
    refine hK.out _ _ (fun _ => hS34) ?_
    clear hK K
    (try simp only [sl])
    have hH4 := hS34; refine takeN 8 264 rfl ?_
    (try simp only [sl])
    refine takeN 9 273 rfl ?_
    (try simp only [sl])
    refine takeN 10 274 rfl ?_
    (try simp only [sl])
    refine takeN 11 275 rfl ?_
    (try simp only [sl])
    refine takeN 12 35 rfl ?_
    (try simp only [sl])
    refine takeN 13 36 rfl ?_
    (try simp only [sl])
    refine takeN 14 37 rfl ?_
    (try simp only [sl])
    refine doneL (by kernel_rfl) ?_ _
    refine NoPanic.normal ?_; obtain ⟨hb34, hsm, hlast⟩ := unhide H34; have HB34 := hide hb34; have HLS := hide hlast; have y1 : IntKind.i64.wrap ((sm : Int) + 1 - 1) = (sm : Int) := by rw [IntKind.wrap_i64]; omega
    have y3 : IntKind.i64.wrap (sm : Int) = (sm : Int) := by rw [IntKind.wrap_i64]; omega
    have y2 : (sm : Int) < (sm : Int) + 1 := by omega
    clear hHeld hS0 CTh H34 hb34 hsm hlast
    go_upto_region 34 with fail
    have hL0 := unhide HLS w34 (Below.refl _ _); have hLd := unhide HLS w34.drew ((Below.refl _ _).drew); obtain ⟨h170, h171, h0⟩ := unhide HCD; generalize endOf from_ d' = en2 at *; generalize costOf d' = cs2 at *; have z5 : (0 : Int) < (gm : Int) + 1 := by omega
    by_cases he : en2 = en
    · obtain rfl : en = en2 := he.symm
      by_cases hcc : cs2 = cs
      · obtain rfl : cs = cs2 := hcc.symm; obtain rfl : cd10 = 0 := h0 rfl rfl; clear h170 h171 h0 HCD; refine wp_region_noPanic ?_; refine regionL [] (fun y => y.cell? ⟨sg, sm, none⟩ = some (.int .i64 en) ∧ y.cell? ⟨b8, 0, none⟩ = some (.slice a1 m1 q1) ∧ y.cell? ⟨b8, 1, none⟩ = some (.slice a2 m2 q2) ∧ y.cell? ⟨b8, 2, none⟩ = some (.int .i64 rd) ∧ y.cell? ⟨b8, 3, none⟩ = some (.int .i64 wr0)) (by kernel_rfl) (And.intro hLd hS34) (fun hHeld => ?_)
        refine takeN 0 276 rfl ?_
        (try simp only [sl])
        refine takeN 1 277 rfl ?_
        (try simp only [sl])
        refine takeN 2 278 rfl ?_
        (try simp only [sl])
        refine takeN 3 279 rfl ?_
        (try simp only [sl])
        refine takeN 4 280 rfl ?_
        (try simp only [sl])
        refine takeN 5 281 rfl ?_
        (try simp only [sl])
        refine takeN 6 282 rfl ?_
        (try simp only [sl])
        refine takeN 7 283 rfl ?_
        (try simp only [sl])
        refine takeN 8 284 rfl ?_
        (try simp only [sl])
        refine takeN 9 285 rfl ?_
        (try simp only [sl])
        refine takeN 10 286 rfl ?_
        (try simp only [sl])
        refine takeN 11 287 rfl ?_
        (try simp only [sl])
        refine takeN 12 288 rfl ?_
        (try simp only [sl])
        refine takeN 13 289 rfl ?_
        (try simp only [sl])
        refine takeN 14 290 rfl ?_
        (try simp only [sl])
        refine takeN 16 292 rfl ?_
        (try simp only [sl])
        refine readyL (i := 15) (by kernel_rfl) rfl (fun K hK => ?_)
        go_simp
        refine (unhide CCo _ ((unhide HB34).drew)).mono ?_
        rintro e w35 ⟨rfl, H35⟩
        have hS35 := unhide HCELL w35 (unhide H35).1; have hL35 := unhide HLS w35 (((Below.refl _ _).drew).trans (unhide H35).2)
        (try dsimp only)
        refine hK.out _ _ (fun _ => (And.intro hL35 hS35)) ?_
        clear hK K
        (try simp only [sl])
        have hH10 := (And.intro hL35 hS35); refine takeN 17 293 rfl ?_
        (try simp only [sl])
        refine takeN 18 294 rfl ?_
        (try simp only [sl])
        refine takeN 19 38 rfl ?_
        (try simp only [sl])
        refine doneL (by kernel_rfl) ?_ _
        refine NoPanic.normal ?_; have HB35 := hide (unhide H35).1; clear hHeld hS34 hL0 hLd hS35 hL35 H35 CCo HLS HB34
        (try dsimp only)
        repeat ((fail_if_success (with_reducible change Code.wp _ (Code.seq (Code.region 37 _ _) _) _ _ _)); go_step)
        obtain ⟨hc, hD⟩ := unhide CDr _ (unhide HB35); have HC37 := hide hc; have HD37 := hide hD; clear hc hD CDr; refine wlk37 _ _ _ _ _ _ _ _ _ _ _ _ _ _ _ _ _ _ _ _ _ _ _ _ _ _ _ _ _ _ _ _ _ _ _ _ _ _ _ _ _ _ _ _ _ _ _ _ _ _ _ _ _ _ _ _ _ _ _ _ _ _ _ _ _ _ _ _ _ _ _ _ _ _ _ _ _ _ _ _ _ _ _ _ _ _ _ _ _ _ _ _ _ _ _ _ _ _ _ _ _ _ _ _ _ _ _ _ _ _ _ _ _ _ _ _ _ _ _ _ _ _ _ _ _ _ _ _ _ _ _ _ _ _ _ _ _ _ _ _ _ _ _ _ _ _ _ _ _ _ _ _ _ _ _ _ _ _ _ _ _ _ _ _ _ _ _ _ _ _ _ _ _ _ _ _ _ _ _ _ _ _ _ _ _ _ _ _ _ _ _ _ _ _ _ _ _ _ _ _ _ _ _ _ _ _ _ _ _ _ _ _ _ _ _ _ _ _ _ _ _ _ _ _ _ _ _ _ _ _ _ _ _ _ _ _ _ _ _ _ _ _ _ _ _ _ _ _ _ _ _ _ _ _ _ _ _ _ _ _ _ _ _ _ _ _ _ _ _ _ _ _ _ _ _ _ _ _ _ _ _ _ _ _ _ _ _ _ _ _ _ _ _ _ _ _ _ _ _ _ _ _ _ _ _ _ _ _ _ _ _ _ _ _ _ _ HC37 HD37 ?_
        rintro y20 y34 y299 y300 y301 y302 y303 y304 y305 y306 y307 y308 y309 y310 y311 y312 y313 y314 y315 y316 y317 wz hbz
        exact unhide HQ _ _ _ _ _ _ _ _ _ _ _ _ _ _ _ _ _ _ _ _ _ _ _ _ _ _ _ _ _ _ _ _ _ _ _ _ _ _ _ _ _ _ _ _ _ _ _ _ _ _ _ _ _ _ _ _ _ _ _ _ _ _ _ _ _ _ _ _ _ _ _ _ _ _ _ _ _ _ _ _ _ _ _ _ _ _ _ _ _ _ _ _ _ _ _ hbz
      · have zcc : (((cs2 : Nat) : Int) == ((cs : Nat) : Int)) = false := beq_eq_false_iff_ne.2 (fun z => hcc (by omega))
        obtain rfl : cd10 = 171 := h171 rfl hcc; clear h170 h171 h0 HCD hcc; refine wp_region_noPanic ?_; refine regionL [] (fun y => y.cell? ⟨sg, sm, none⟩ = some (.int .i64 en) ∧ y.cell? ⟨b8, 0, none⟩ = some (.slice a1 m1 q1) ∧ y.cell? ⟨b8, 1, none⟩ = some (.slice a2 m2 q2) ∧ y.cell? ⟨b8, 2, none⟩ = some (.int .i64 rd) ∧ y.cell? ⟨b8, 3, none⟩ = some (.int .i64 wr0)) (by kernel_rfl) (And.intro hLd hS34) (fun hHeld => ?_)
        refine takeN 0 276 rfl ?_
        (try simp only [sl])
        refine takeN 1 277 rfl ?_
        (try simp only [sl])
        refine takeN 2 278 rfl ?_
        (try simp only [sl])
        refine takeN 3 279 rfl ?_
        (try simp only [sl])
        refine takeN 4 280 rfl ?_
        (try simp only [sl])
        refine takeN 5 281 rfl ?_
        (try simp only [sl])
        refine takeN 6 282 rfl ?_
        (try simp only [sl])
        refine takeN 7 283 rfl ?_
        (try simp only [sl])
        refine takeN 8 284 rfl ?_
        (try simp only [sl])
        refine takeN 9 285 rfl ?_
        (try simp only [sl])
        refine takeN 10 286 rfl ?_
        (try simp only [sl])
        refine takeN 11 287 rfl ?_
        (try simp only [sl])
        refine takeN 12 288 rfl ?_
        (try simp only [sl])
        refine takeN 13 289 rfl ?_
        (try simp only [sl])
        refine takeN 14 290 rfl ?_
        (try simp only [sl])
        refine takeN 16 292 rfl ?_
        (try simp only [sl])
        refine readyL (i := 15) (by kernel_rfl) rfl (fun K hK => ?_)
        go_simp
        refine (unhide CCo _ ((unhide HB34).drew)).mono ?_
        rintro e w35 ⟨rfl, H35⟩
        have hS35 := unhide HCELL w35 (unhide H35).1; have hL35 := unhide HLS w35 (((Below.refl _ _).drew).trans (unhide H35).2)
        (try dsimp only)
        refine hK.out _ _ (fun _ => (And.intro hL35 hS35)) ?_
        clear hK K
        (try simp only [sl])
        have hH16 := (And.intro hL35 hS35); refine takeN 17 293 rfl ?_
        (try simp only [sl])
        refine takeN 18 294 rfl ?_
        (try simp only [sl])
        refine takeN 19 38 rfl ?_
        (try simp only [sl])
        refine doneL (by kernel_rfl) ?_ _
        refine NoPanic.normal ?_; have HB35 := hide (unhide H35).1; clear hHeld hS34 hL0 hLd hS35 hL35 H35 CCo HLS HB34
        (try dsimp only)
        repeat ((fail_if_success (with_reducible change Code.wp _ (Code.seq (Code.region 37 _ _) _) _ _ _)); go_step)
        obtain ⟨hc, hD⟩ := unhide CDr _ (unhide HB35); have HC37 := hide hc; have HD37 := hide hD; clear hc hD CDr; refine wlk37 _ _ _ _ _ _ _ _ _ _ _ _ _ _ _ _ _ _ _ _ _ _ _ _ _ _ _ _ _ _ _ _ _ _ _ _ _ _ _ _ _ _ _ _ _ _ _ _ _ _ _ _ _ _ _ _ _ _ _ _ _ _ _ _ _ _ _ _ _ _ _ _ _ _ _ _ _ _ _ _ _ _ _ _ _ _ _ _ _ _ _ _ _ _ _ _ _ _ _ _ _ _ _ _ _ _ _ _ _ _ _ _ _ _ _ _ _ _ _ _ _ _ _ _ _ _ _ _ _ _ _ _ _ _ _ _ _ _ _ _ _ _ _ _ _ _ _ _ _ _ _ _ _ _ _ _ _ _ _ _ _ _ _ _ _ _ _ _ _ _ _ _ _ _ _ _ _ _ _ _ _ _ _ _ _ _ _ _ _ _ _ _ _ _ _ _ _ _ _ _ _ _ _ _ _ _ _ _ _ _ _ _ _ _ _ _ _ _ _ _ _ _ _ _ _ _ _ _ _ _ _ _ _ _ _ _ _ _ _ _ _ _ _ _ _ _ _ _ _ _ _ _ _ _ _ _ _ _ _ _ _ _ _ _ _ _ _ _ _ _ _ _ _ _ _ _ _ _ _ _ _ _ _ _ _ _ _ _ _ _ _ _ _ _ _ _ _ _ _ _ _ _ _ _ _ _ _ _ _ _ _ _ _ _ _ _ HC37 HD37 ?_
        rintro y20 y34 y299 y300 y301 y302 y303 y304 y305 y306 y307 y308 y309 y310 y311 y312 y313 y314 y315 y316 y317 wz hbz
        exact unhide HQ _ _ _ _ _ _ _ _ _ _ _ _ _ _ _ _ _ _ _ _ _ _ _ _ _ _ _ _ _ _ _ _ _ _ _ _ _ _ _ _ _ _ _ _ _ _ _ _ _ _ _ _ _ _ _ _ _ _ _ _ _ _ _ _ _ _ _ _ _ _ _ _ _ _ _ _ _ _ _ _ _ _ _ _ _ _ _ _ _ _ _ _ _ _ _ hbz
    · have zee : (en2 == en) = false := by simpa using he
      obtain rfl : cd10 = 170 := h170 he; clear h170 h171 h0 HCD he; refine wp_region_noPanic ?_; refine regionL [] (fun y => y.cell? ⟨sg, sm, none⟩ = some (.int .i64 en2) ∧ y.cell? ⟨b8, 0, none⟩ = some (.slice a1 m1 q1) ∧ y.cell? ⟨b8, 1, none⟩ = some (.slice a2 m2 q2) ∧ y.cell? ⟨b8, 2, none⟩ = some (.int .i64 rd) ∧ y.cell? ⟨b8, 3, none⟩ = some (.int .i64 wr0)) (by kernel_rfl) (And.intro hLd hS34) (fun hHeld => ?_)
      refine takeN 0 276 rfl ?_
      (try simp only [sl])
      refine takeN 1 277 rfl ?_
      (try simp only [sl])
      refine takeN 2 278 rfl ?_
      (try simp only [sl])
      refine takeN 3 279 rfl ?_
      (try simp only [sl])
      refine takeN 4 280 rfl ?_
      (try simp only [sl])
      refine takeN 5 281 rfl ?_
      (try simp only [sl])
      refine takeN 6 282 rfl ?_
      (try simp only [sl])
      refine takeN 7 283 rfl ?_
      (try simp only [sl])
      refine takeN 8 284 rfl ?_
      (try simp only [sl])
      refine takeK 9 285 rfl ?_
      (try simp only [sl])
      refine takeK 10 286 rfl ?_
      (try simp only [sl])
      refine takeK 11 287 rfl ?_
      (try simp only [sl])
      refine takeK 12 288 rfl ?_
      (try simp only [sl])
      refine takeK 13 289 rfl ?_
      (try simp only [sl])
      refine takeK 14 290 rfl ?_
      (try simp only [sl])
      refine takeK 15 291 rfl ?_
      (try simp only [sl])
      refine takeK 16 292 rfl ?_
      (try simp only [sl])
      refine takeK 17 293 rfl ?_
      (try simp only [sl])
      refine takeN 18 294 rfl ?_
      (try simp only [sl])
      refine takeN 19 38 rfl ?_
      (try simp only [sl])
      refine doneL (by kernel_rfl) ?_ _
      refine NoPanic.normal ?_; clear hHeld hS34 hL0 hLd CCo HLS
      (try dsimp only)
      repeat ((fail_if_success (with_reducible change Code.wp _ (Code.seq (Code.region 37 _ _) _) _ _ _)); go_step)
      obtain ⟨hc, hD⟩ := unhide CDr _ ((unhide HB34).drew); have HC37 := hide hc; have HD37 := hide hD; clear hc hD CDr; refine wlk37 _ _ _ _ _ _ _ _ _ _ _ _ _ _ _ _ _ _ _ _ _ _ _ _ _ _ _ _ _ _ _ _ _ _ _ _ _ _ _ _ _ _ _ _ _ _ _ _ _ _ _ _ _ _ _ _ _ _ _ _ _ _ _ _ _ _ _ _ _ _ _ _ _ _ _ _ _ _ _ _ _ _ _ _ _ _ _ _ _ _ _ _ _ _ _ _ _ _ _ _ _ _ _ _ _ _ _ _ _ _ _ _ _ _ _ _ _ _ _ _ _ _ _ _ _ _ _ _ _ _ _ _ _ _ _ _ _ _ _ _ _ _ _ _ _ _ _ _ _ _ _ _ _ _ _ _ _ _ _ _ _ _ _ _ _ _ _ _ _ _ _ _ _ _ _ _ _ _ _ _ _ _ _ _ _ _ _ _ _ _ _ _ _ _ _ _ _ _ _ _ _ _ _ _ _ _ _ _ _ _ _ _ _ _ _ _ _ _ _ _ _ _ _ _ _ _ _ _ _ _ _ _ _ _ _ _ _ _ _ _ _ _ _ _ _ _ _ _ _ _ _ _ _ _ _ _ _ _ _ _ _ _ _ _ _ _ _ _ _ _ _ _ _ _ _ _ _ _ _ _ _ _ _ _ _ _ _ _ _ _ _ _ _ _ _ _ _ _ _ _ _ _ _ _ _ _ _ _ _ _ _ _ _ _ _ _ HC37 HD37 ?_
      rintro y20 y34 y299 y300 y301 y302 y303 y304 y305 y306 y307 y308 y309 y310 y311 y312 y313 y314 y315 y316 y317 wz hbz
      exact unhide HQ _ _ _ _ _ _ _ _ _ _ _ _ _ _ _ _ _ _ _ _ _ _ _ _ _ _ _ _ _ _ _ _ _ _ _ _ _ _ _ _ _ _ _ _ _ _ _ _ _ _ _ _ _ _ _ _ _ _ _ _ _ _ _ _ _ _ _ _ _ _ _ _ _ _ _ _ _ _ _ _ _ _ _ _ _ _ _ _ _ _ _ _ _ _ _ hbz
end Go.Proofs.YtagibmgbjhemkaaGreat
