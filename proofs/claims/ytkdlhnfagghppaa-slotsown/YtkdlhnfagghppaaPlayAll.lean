/- play, whatever the call. -/
import Derived.Test.YtkdlhnfagghppaaDuo
import Derived.Deep.RegionHeld3
import Derived.Test.YtkdlhnfagghppaaEx
namespace Go.Proofs.Ytkdlhnfagghppaa
open Go.RowKit Go.Maps

/-- The reference's list stays. -/
theorem row_kx {X : Nat → Prop} {u u' : World} {v : Value} {L : Nat} {xs : List Value} {s : Nat} (h : u.ownsRow 0 47 2 v L xs) (hv : ∀ b, v.ownBlock = some b → X b) (hk : KX (X3 X s) u u') : u'.ownsRow 0 47 2 v L xs := items_kept h (fun b hb => hk b (.inl (hv b hb)))
theorem kx_sub {X : Nat → Prop} {u u' : World} {s : Nat} (hk : KX (X3 X s) u u') : KX X u u' := hk.mono (fun _ => .inl)
section
variable [Inhabited EntI] {X : Nat → Prop} {B : Nat} {w0 : World} {t n : Nat} {most : Int} {ps : List (Int × Bool)}
/-- A new list beside it. -/
theorem Duo.list {u u3 : World} {s L : Nat} {v' : Value} {xs : List Value} (h : Duo (X3 X s) B w0 t most ps n u) (hb : Below u.heap.size u u3) (hr : u3.ownsRow u.heap.size 47 2 v' L xs) : Duo (fun b => X3 X s b ∨ v'.ownBlock = some b) B w0 t most ps n u3 :=
  h.next hb (fun b hx => hx.imp id (fun e => hr.lt b e))
theorem Duo.same {u : World} {s : Nat} {v : Value} (h : Duo (X3 X s) B w0 t most ps n u) (hv : ∀ b, v.ownBlock = some b → X b) : Duo (fun b => X3 X s b ∨ v.ownBlock = some b) B w0 t most ps n u := h.sub (fun _ hx => hx.elim id (fun e => .inl (hv _ e)))
end

set_option maxHeartbeats 2000000 in
set_option maxRecDepth 100000 in
theorem playPut [Inhabited EntI] {X : Nat → Prop} {B : Nat} {w0 w : World} {t n : Nat} {most : Int} {ps : List (Int × Bool)} {v : Value} {its : List (Int × Int)} (k x : Int) (i : Nat) (h : Duo X B w0 t most ps n w) (hv : ∀ b, v.ownBlock = some b → X b) (hrow : w.ownsRow 0 47 2 v its.length (enc .i64 its)) (hrel : Rel ps its) (hL : its.length ≤ 100000) (hn : n ≤ 500000000)
    (hf : FreeIs ps most ((i : Int) + 1)) (hi : (i : Int) < most) (hk : ∀ a, ps[i]? ≠ some (a, true)) :
    Calls Try.prog 10 #[.pointer (some ⟨t, 0, none⟩), .agg #[.int .i64 most, v], .agg #[.int .i64 1, .int .i64 k, .int .i64 x]] w fun e w' => ∃ v', e = .returned (.tuple #[.agg #[.int .i64 most, v'], .bool true]) ∧ Hid (Played X B w0 t most n its.length w v' w') := by
  obtain ⟨hP, hD, hb, hs⟩ := begin3 h (.int .i64 most) v (.int .i64 1) (.int .i64 k) (.int .i64 x)
  have hm := h.live.fits
  have hone : ∀ r, FreeIs ps most r → r = (i : Int) + 1 := fun r hr => (rel_free hrel hm.1 hr (by
    have h1 : FreeR its most (((i : Int) + 1)) := by
      refine .inl ⟨by omega, by omega, rel_out hrel hk, fun j h1 h2 => ?_⟩
      rcases hf with ⟨i2, a, e, g1, g2⟩ | ⟨g2, ⟨-, e⟩ | ⟨-, e⟩⟩
      · obtain ⟨b, hb⟩ := g2 (j - 1).toNat (by omega)
        have := rel_in hrel hb
        rwa [show (((j - 1).toNat : Nat) : Int) + 1 = j by omega] at this
      · omega
      · obtain ⟨b, hb⟩ := g2 (j - 1).toNat (by omega)
        have := rel_in hrel hb
        rwa [show (((j - 1).toNat : Nat) : Int) + 1 = j by omega] at this
    exact h1)).symm
  have C1 := hide (dPut i x hD hone hi hk (by omega))
  have HRW := hide (items_below hrow hb)
  have HF : Hid (∀ r, FreeR its most r → r = (i : Int) + 1) := fun r hr => rel_free hrel hm.1 hf hr
  have HO := hide (rel_out hrel hk)
  have HREL := hide (rel_put hrel hk x)
  have HX := hide h.xlt
  have HB := hide h.room
  have HV := hide hv
  have HKW : Hid (KX X w (((w.alloc (.cells #[.int .i64 most, v] 27)).alloc (.cells #[.int .i64 1, .int .i64 k, .int .i64 x] 33)).alloc (.cells #[.int .i64 0, .slice none 0 0] 27))) := h.kx hb
  have HS := hide hs
  obtain ⟨a, c, rfl⟩ := item_shape hrow
  have HM := hide hm
  have HMI := hide hi
  generalize hLL : its.length = L at *
  have HLL := hide hLL
  have HL6 : Hid (its.length ≤ 1000000) := by rw [hLL]; exact Nat.le_trans hL (by omega)
  clear h hv hrow hrel hL hn hf hi hk hb hs hm hone hLL hD
  go_enter Try.func10, Try.ntmps10
  go_upto_region 1 with fail
  generalize (((w.alloc (.cells #[.int .i64 most, .slice a L c] 27)).alloc (.cells #[.int .i64 1, .int .i64 k, .int .i64 x] 33)).alloc (.cells #[.int .i64 0, .slice none 0 0] 27)) = W at *
  have HP := hide hP
  obtain ⟨m0, m1, o0, o1, o2, r0, r1, rf⟩ := hP
  go_wp2_with fail
  refine (unhide C1).mono ?_
  rintro e u1 ⟨rfl, h1⟩
  obtain ⟨n1, l1, D1, K1⟩ := unhide h1
  have hP1 := (unhide HP).kept K1
  have R1 := row_kx (unhide HRW) (unhide HV) K1
  have CF := hide (refFree most u1 (by rw [unhide HLL]; exact R1) (unhide HL6) ⟨by have := unhide HMI; omega, (unhide HM).2⟩)
  have HP1 := hide hP1
  obtain ⟨m0, m1, o0, o1, o2, r0, r1, rf⟩ := hP1
  have HD1 := hide D1
  have HK1 := hide ((unhide HKW).trans (kx_sub K1))
  have Hl1 := hide l1
  have HR1 := hide R1
  clear C1 h1 D1 K1 l1 R1 HKW HRW HP
  go_wp2_with fail
  refine (unhide CF).mono ?_
  rintro e u2 ⟨r, rfl, h2⟩
  obtain ⟨f2, b2⟩ := unhide h2
  obtain rfl := unhide HF r f2
  have K2 := (unhide HD1).kx b2
  have D2 := (unhide HD1).step b2
  have R2 := row_kx (unhide HR1) (unhide HV) K2
  have hP2 := (unhide HP1).kept K2
  have CP := hide (refPutYes most ((i : Int) + 1) x u2 (by rw [unhide HLL]; exact R2) (unhide HL6) (by omega) (by have := unhide HMI; omega) (unhide HO))
  have HP2 := hide hP2
  obtain ⟨m0, m1, o0, o1, o2, r0, r1, rf⟩ := hP2
  have HD2 := hide D2
  have HK2 := hide ((unhide HK1).trans (kx_sub K2))
  clear CF h2 f2 b2 K2 D2 R2 HD1 HK1 HP1 HR1 HF HO
  go_wp2_with fail
  refine (unhide CP).mono ?_
  rintro e u3 ⟨v', rfl, h3⟩
  obtain ⟨R3, b3⟩ := unhide h3
  have D3 := (unhide HD2).list b3 R3
  have K3 := (unhide HD2).kx b3
  have hP3 := ((unhide HP2).kept K3).alloc (.cells #[.int .i64 most, v'] 27)
  obtain ⟨q0, q1, qf⟩ := box2 u3 (.int .i64 most) v' 27
  obtain ⟨a3, c3, rfl⟩ := item_shape (items_kept R3 (fun _ _ => rfl))
  have HR := hide (stored2 hP3.r0 hP3.r1 (.int .i64 most) (.slice a3 (its.length + 1) c3))
  have HE : Hid (Played X B w0 t most n L w (.slice a3 (its.length + 1) c3) (((u3.alloc (.cells #[.int .i64 most, .slice a3 (its.length + 1) c3] 27)).setCell ⟨w.heap.size + 2, 0, none⟩ (.int .i64 most)).setCell ⟨w.heap.size + 2, 1, none⟩ (.slice a3 (its.length + 1) c3))) := by
    have ba : Below u3.heap.size u3 (u3.alloc (.cells #[.int .i64 most, .slice a3 (its.length + 1) c3] 27)) := (Below.refl _ _).alloc (Nat.le_refl _) _
    refine end3 (unhide HX) (unhide HB) (D3.step ba) (((unhide HK2).trans (kx_sub K3)).trans (fun b hb => ba.block b (D3.xlt b (.inl (.inl hb))))) (unhide HREL) (by have := unhide Hl1; omega) (by rw [List.length_append, unhide HLL]; simp) (by rw [List.length_append]; exact items_below (items_kept R3 (fun _ _ => rfl)) ba) (fun b hb => ?_)
    have h4 := (R3.lt b hb).1
    have h5 := (unhide HD2).xlt (w.heap.size + 2) (.inr (.inr (.inr rfl)))
    omega
  generalize its.length + 1 = L3 at *
  obtain ⟨m0, m1, o0, o1, o2, r0, r1, rf⟩ := hP3
  clear CP h3 R3 b3 D3 K3 HD2 HK2 HP2 HREL HX HB
  go_upto_region 6 with fail
  generalize (u3.alloc (.cells #[.int .i64 most, .slice a3 L3 c3] 27)) = u4 at *
  go_wp2_with fail
  (try simp only [Exit.inBlock, Exit.then])
  refine bodyPost_ret (res2 rfl _ _ (w.heap.size + 2) _ _ rfl (unhide HR).1 (unhide HR).2) rfl ?_
  exact ⟨_, rfl, unhide HE⟩

set_option maxHeartbeats 2000000 in
set_option maxRecDepth 100000 in
theorem playPutFull [Inhabited EntI] {X : Nat → Prop} {B : Nat} {w0 w : World} {t n : Nat} {most : Int} {ps : List (Int × Bool)} {v : Value} {its : List (Int × Int)} (k x : Int) (h : Duo X B w0 t most ps n w) (hv : ∀ b, v.ownBlock = some b → X b) (hrow : w.ownsRow 0 47 2 v its.length (enc .i64 its)) (hrel : Rel ps its) (hL : its.length ≤ 100000) (_ : n ≤ 500000000)
    (h0 : FreeIs ps most 0) (hf : ∀ r, FreeIs ps most r → r = 0) :
    Calls Try.prog 10 #[.pointer (some ⟨t, 0, none⟩), .agg #[.int .i64 most, v], .agg #[.int .i64 1, .int .i64 k, .int .i64 x]] w fun e w' => ∃ v', e = .returned (.tuple #[.agg #[.int .i64 most, v'], .bool true]) ∧ Hid (Played X B w0 t most n its.length w v' w') := by
  obtain ⟨hP, hD, hb, hs⟩ := begin3 h (.int .i64 most) v (.int .i64 1) (.int .i64 k) (.int .i64 x)
  have hm := h.live.fits
  have hL6 : its.length ≤ 1000000 := Nat.le_trans hL (by omega)
  have hrW := items_below hrow hb
  have C1 := hide (putNoLN x hD.live (fun r hr => hf r hr))
  have HF : Hid (∀ r, FreeR its most r → r = 0) := fun r hr => rel_free hrel hm.1 h0 hr
  have HM2 : Hid (0 ≤ most ∧ most ≤ 65536) := ⟨by omega, hm.2⟩
  have HD := hide hD
  have HRW := hide hrW
  have HREL0 := hide hrel
  have HX := hide h.xlt
  have HB := hide h.room
  have HV := hide hv
  have HKW : Hid (KX X w (((w.alloc (.cells #[.int .i64 most, v] 27)).alloc (.cells #[.int .i64 1, .int .i64 k, .int .i64 x] 33)).alloc (.cells #[.int .i64 0, .slice none 0 0] 27))) := h.kx hb
  obtain ⟨a, c, rfl⟩ := item_shape hrow
  have HM := hide hm
  generalize hLL : its.length = L at *
  have HLL := hide hLL
  have HL6 : Hid (its.length ≤ 1000000) := by rw [hLL]; exact hL6
  clear h hv hrow hrel hL hL6 hb hs hm hLL hD hrW h0 hf
  go_enter Try.func10, Try.ntmps10
  go_upto_region 1 with fail
  generalize (((w.alloc (.cells #[.int .i64 most, .slice a L c] 27)).alloc (.cells #[.int .i64 1, .int .i64 k, .int .i64 x] 33)).alloc (.cells #[.int .i64 0, .slice none 0 0] 27)) = W at *
  have HP := hide hP
  obtain ⟨m0, m1, o0, o1, o2, r0, r1, rf⟩ := hP
  go_wp2_with fail
  refine (unhide C1).mono ?_
  rintro e u1 ⟨rfl, q, rfl⟩
  have b1 : Below W.heap.size W (W.drewN q) := below_drewN (Below.refl _ _) q
  have K1 := (unhide HD).kx b1
  have D1 := (unhide HD).step b1
  have R1 := row_kx (unhide HRW) (unhide HV) K1
  have hP1 := (unhide HP).kept K1
  generalize W.drewN q = u1 at *
  have CF := hide (refFree most u1 (by rw [unhide HLL]; exact R1) (unhide HL6) (unhide HM2))
  have HP1 := hide hP1
  obtain ⟨m0, m1, o0, o1, o2, r0, r1, rf⟩ := hP1
  have HD1 := hide D1
  have HK1 := hide ((unhide HKW).trans (kx_sub K1))
  have HR1 := hide R1
  clear C1 D1 K1 R1 b1 HKW HRW HP HD
  go_wp2_with fail
  refine (unhide CF).mono ?_
  rintro e u2 ⟨r, rfl, h2⟩
  obtain ⟨f2, b2⟩ := unhide h2
  obtain rfl := unhide HF r f2
  have K2 := (unhide HD1).kx b2
  have D2 := (unhide HD1).step b2
  have R2 := row_kx (unhide HR1) (unhide HV) K2
  have hP2 := (unhide HP1).kept K2
  have CP := hide (refPutNo most 0 x u2 (by rw [unhide HLL]; exact R2) (unhide HL6) (.inl (by omega)))
  have HP2 := hide hP2
  obtain ⟨m0, m1, o0, o1, o2, r0, r1, rf⟩ := hP2
  have HD2 := hide D2
  have HK2 := hide ((unhide HK1).trans (kx_sub K2))
  have HR2 := hide R2
  clear CF h2 f2 b2 K2 D2 R2 HD1 HK1 HP1 HR1 HF
  go_wp2_with fail
  refine (unhide CP).mono ?_
  rintro e u3 ⟨rfl, b3⟩
  have ba : Below u3.heap.size u3 (u3.alloc (.cells #[.int .i64 most, .slice a L c] 27)) := (Below.refl _ _).alloc (Nat.le_refl _) _
  have b4 := (unhide b3).trans (ba.mono (unhide b3).size)
  have D3 := (unhide HD2).step b4
  have K3 := (unhide HD2).kx b4
  have R3 := row_kx (unhide HR2) (unhide HV) K3
  have hP3 := (unhide HP2).kept K3
  obtain ⟨q0, q1, qf⟩ := box2 u3 (.int .i64 most) (.slice a L c) 27
  have HK3 := (unhide HK2).trans (kx_sub K3)
  have HR := hide (stored2 hP3.r0 hP3.r1 (.int .i64 most) (.slice a L c))
  have HE : Hid (Played X B w0 t most n L w (.slice a L c) (((u3.alloc (.cells #[.int .i64 most, .slice a L c] 27)).setCell ⟨w.heap.size + 2, 0, none⟩ (.int .i64 most)).setCell ⟨w.heap.size + 2, 1, none⟩ (.slice a L c))) :=
    end3 (unhide HX) (unhide HB) ((D3).same (unhide HV)) HK3 (unhide HREL0) (by omega) (by rw [unhide HLL]; omega) (by rw [unhide HLL]; exact R3) (fun b hb e => by have := unhide HX b (unhide HV b hb); omega)
  obtain ⟨m0, m1, o0, o1, o2, r0, r1, rf⟩ := hP3
  clear CP b3 ba b4 R3 D3 K3 HD2 HK2 HP2 HK3 HX HB
  go_upto_region 6 with fail
  generalize (u3.alloc (.cells #[.int .i64 most, .slice a L c] 27)) = u4 at *
  go_wp2_with fail
  (try simp only [Exit.inBlock, Exit.then])
  refine bodyPost_ret (res2 rfl _ _ (w.heap.size + 2) _ _ rfl (unhide HR).1 (unhide HR).2) rfl ?_
  exact ⟨_, rfl, unhide HE⟩

set_option maxHeartbeats 2000000 in
set_option maxRecDepth 100000 in
theorem playPutAtNo [Inhabited EntI] {X : Nat → Prop} {B : Nat} {w0 w : World} {t n : Nat} {most : Int} {ps : List (Int × Bool)} {v : Value} {its : List (Int × Int)} (k x : Int) (h : Duo X B w0 t most ps n w) (hv : ∀ b, v.ownBlock = some b → X b) (hrow : w.ownsRow 0 47 2 v its.length (enc .i64 its)) (hrel : Rel ps its) (hL : its.length ≤ 100000) (_ : n ≤ 500000000)
    (hno1 : k < 1 ∨ most < k ∨ ∃ (i : Nat) (a : Int), k = (i : Int) + 1 ∧ ps[i]? = some (a, true)) (hno2 : k < 1 ∨ most < k ∨ ¬ Out its k) :
    Calls Try.prog 10 #[.pointer (some ⟨t, 0, none⟩), .agg #[.int .i64 most, v], .agg #[.int .i64 2, .int .i64 k, .int .i64 x]] w fun e w' => ∃ v', e = .returned (.tuple #[.agg #[.int .i64 most, v'], .bool true]) ∧ Hid (Played X B w0 t most n its.length w v' w') := by
  obtain ⟨hP, hD, hb, hs⟩ := begin3 h (.int .i64 most) v (.int .i64 2) (.int .i64 k) (.int .i64 x)
  have hm := h.live.fits
  have hL6 : its.length ≤ 1000000 := Nat.le_trans hL (by omega)
  have hrW := items_below hrow hb
  have C1 := hide (refPutNo most k x _ hrW hL6 hno2)
  have C2 : Hid (∀ u, Duo (X3 X w.heap.size) B w0 t most ps n u → Calls Try.prog 17 #[.pointer (some ⟨t, 0, none⟩), .int .i64 k, .int .i64 x] u fun e w' => e = .returned (.bool false) ∧ w' = u) := fun u hu => putAtNoLN k x hu.live hno1
  have HD := hide hD
  have HRW := hide hrW
  have HREL0 := hide hrel
  have HX := hide h.xlt
  have HB := hide h.room
  have HV := hide hv
  have HKW : Hid (KX X w (((w.alloc (.cells #[.int .i64 most, v] 27)).alloc (.cells #[.int .i64 2, .int .i64 k, .int .i64 x] 33)).alloc (.cells #[.int .i64 0, .slice none 0 0] 27))) := h.kx hb
  obtain ⟨a, c, rfl⟩ := item_shape hrow
  have HM := hide hm
  generalize hLL : its.length = L at *
  have HLL := hide hLL
  have HL6 : Hid (its.length ≤ 1000000) := by rw [hLL]; exact hL6
  clear h hv hrow hrel hL hL6 hb hs hm hLL hD hrW hno1 hno2
  go_enter Try.func10, Try.ntmps10
  go_upto_region 1 with fail
  generalize (((w.alloc (.cells #[.int .i64 most, .slice a L c] 27)).alloc (.cells #[.int .i64 2, .int .i64 k, .int .i64 x] 33)).alloc (.cells #[.int .i64 0, .slice none 0 0] 27)) = W at *
  have HP := hide hP
  obtain ⟨m0, m1, o0, o1, o2, r0, r1, rf⟩ := hP
  go_wp2_with fail
  refine (unhide C1).mono ?_
  rintro e u1 ⟨rfl, b1⟩
  have ba : Below u1.heap.size u1 (u1.alloc (.cells #[.int .i64 most, .slice a L c] 27)) := (Below.refl _ _).alloc (Nat.le_refl _) _
  have b4 := (unhide b1).trans (ba.mono (unhide b1).size)
  have D1 := (unhide HD).step b4
  have K1 := (unhide HD).kx b4
  have R1 := row_kx (unhide HRW) (unhide HV) K1
  have hP1 := (unhide HP).kept K1
  obtain ⟨q0, q1, -⟩ := box2 u1 (.int .i64 most) (.slice a L c) 27
  have HK1 := (unhide HKW).trans (kx_sub K1)
  obtain ⟨g, hg⟩ : ∃ g, g = u1.heap.size := ⟨_, rfl⟩
  have HGN : Hid (g ≠ w.heap.size + 2) := by
    have h5 := (unhide HD).xlt (w.heap.size + 2) (.inr (.inr (.inr rfl)))
    have h6 := (unhide b1).size
    show g ≠ _
    omega
  have C3 : Hid (∀ z, Calls Try.prog 17 #[.pointer (some ⟨t, 0, none⟩), .int .i64 k, .int .i64 x] ((u1.alloc (.cells #[.int .i64 most, .slice a L c] 27)).drewN z) fun e w' => e = .returned (.bool false) ∧ (w'.cell? ⟨g, 0, none⟩ = some (.int .i64 most) ∧ w'.cell? ⟨g, 1, none⟩ = some (.slice a L c) ∧ w'.cell? ⟨w.heap.size + 1, 1, none⟩ = some (.int .i64 k) ∧ w'.cell? ⟨w.heap.size + 1, 2, none⟩ = some (.int .i64 x)) ∧ (w'.cell? ⟨w.heap.size + 2, 0, none⟩ = some (.int .i64 0) ∧ w'.cell? ⟨w.heap.size + 2, 1, none⟩ = some (.slice none 0 0) ∧ ∀ o, w'.frozen? ⟨w.heap.size + 2, o, none⟩ = false) ∧ Hid (Played X B w0 t most n L w (.slice a L c) ((w'.setCell ⟨w.heap.size + 2, 0, none⟩ (.int .i64 most)).setCell ⟨w.heap.size + 2, 1, none⟩ (.slice a L c)))) := fun z => by
    refine (unhide C2 _ (D1.draw z)).mono ?_
    rintro e w' ⟨he, rfl⟩
    rw [hg]
    exact ⟨he, ⟨q0, q1, hP1.o1, hP1.o2⟩, ⟨hP1.r0, hP1.r1, hP1.rf⟩, end3 (unhide HX) (unhide HB) ((D1.draw z).same (unhide HV)) HK1 (unhide HREL0) (by omega) (by rw [unhide HLL]; omega) (by rw [unhide HLL]; exact R1) (fun b hb e => by have := unhide HX b (unhide HV b hb); omega)⟩
  obtain ⟨m0, m1, o0, o1, o2, r0, r1, rf⟩ := hP1
  clear C1 C2 b1 ba b4 K1 HKW HRW HP HD D1 R1 HK1 HX HB HREL0
  go_upto_region 9 with fail
  rw [← hg] at q0 q1 ⊢
  generalize hu2 : (u1.alloc (.cells #[.int .i64 most, .slice a L c] 27)) = u2 at *
  have gn1 : ¬ g = w.heap.size + 2 := unhide HGN
  have gn2 : ¬ g = w.heap.size + 1 + 1 := unhide HGN
  have gn3 : ¬ w.heap.size + 2 = g := fun e => gn1 e.symm
  have gn4 : ¬ w.heap.size + 1 + 1 = g := fun e => gn1 e.symm
  clear hu2 hg HGN
  go_region_held3 (fun w' => w'.cell? ⟨g, 0, none⟩ = some (.int .i64 most) ∧ w'.cell? ⟨g, 1, none⟩ = some (.slice a L c) ∧ w'.cell? ⟨w.heap.size + 1, 1, none⟩ = some (.int .i64 k) ∧ w'.cell? ⟨w.heap.size + 1, 2, none⟩ = some (.int .i64 x)) (first | go_keep | exact ⟨dd0, dd1, dd2, dd3⟩ | ((try dsimp only); (repeat' apply And.intro) <;> first | go_keep | assumption)) ((go_at_call 17; refine (unhide C3 _).mono ?_; rintro e w' ⟨rfl, ⟨dd0, dd1, dd2, dd3⟩, ⟨r0, r1, rf⟩, hE⟩))
  all_goals
    go_wp2_with fail
    have HR := hide (stored2 r0 r1 (.int .i64 most) (.slice a L c))
    (try simp only [Exit.inBlock, Exit.then])
    refine bodyPost_ret (res2 rfl _ _ (w.heap.size + 2) _ _ rfl (unhide HR).1 (unhide HR).2) rfl ?_
    exact ⟨_, rfl, unhide hE⟩

set_option maxHeartbeats 2000000 in
set_option maxRecDepth 100000 in
theorem playPutAtYes [Inhabited EntI] {X : Nat → Prop} {B : Nat} {w0 w : World} {t n : Nat} {most : Int} {ps : List (Int × Bool)} {v : Value} {its : List (Int × Int)} (i : Nat) (x : Int) (h : Duo X B w0 t most ps n w) (hv : ∀ b, v.ownBlock = some b → X b) (hrow : w.ownsRow 0 47 2 v its.length (enc .i64 its)) (hrel : Rel ps its) (hL : its.length ≤ 100000) (hn : n ≤ 500000000)
    (hi : (i : Int) < most) (hk : ∀ a, ps[i]? ≠ some (a, true)) :
    Calls Try.prog 10 #[.pointer (some ⟨t, 0, none⟩), .agg #[.int .i64 most, v], .agg #[.int .i64 2, .int .i64 ((i : Int) + 1), .int .i64 x]] w fun e w' => ∃ v', e = .returned (.tuple #[.agg #[.int .i64 most, v'], .bool true]) ∧ Hid (Played X B w0 t most n its.length w v' w') := by
  obtain ⟨hP, hD, hb, hs⟩ := begin3 h (.int .i64 most) v (.int .i64 2) (.int .i64 ((i : Int) + 1)) (.int .i64 x)
  have hm := h.live.fits
  have hL6 : its.length ≤ 1000000 := Nat.le_trans hL (by omega)
  have hrW := items_below hrow hb
  have C1 := hide (refPutYes most ((i : Int) + 1) x _ hrW hL6 (by omega) (by omega) (rel_out hrel hk))
  have C2 : Hid (∀ X' u, Duo X' B w0 t most ps n u → Calls Try.prog 17 #[.pointer (some ⟨t, 0, none⟩), .int .i64 ((i : Int) + 1), .int .i64 x] u fun e w' => e = .returned (.bool true) ∧ Hid (∃ n', n' ≤ n + 65536 ∧ Duo X' B w0 t most ((groN ps (i + 1)).set i (x, true)) n' w' ∧ KX X' u w')) := fun X' u hu => dPutAt i x hu hi hk (by omega)
  have HREL := hide (rel_put hrel hk x)
  have HD := hide hD
  have HRW := hide hrW
  have HREL0 := hide hrel
  have HX := hide h.xlt
  have HB := hide h.room
  have HV := hide hv
  have HKW : Hid (KX X w (((w.alloc (.cells #[.int .i64 most, v] 27)).alloc (.cells #[.int .i64 2, .int .i64 ((i : Int) + 1), .int .i64 x] 33)).alloc (.cells #[.int .i64 0, .slice none 0 0] 27))) := h.kx hb
  obtain ⟨a, c, rfl⟩ := item_shape hrow
  have HM := hide hm
  generalize hLL : its.length = L at *
  have HLL := hide hLL
  have HL6 : Hid (its.length ≤ 1000000) := by rw [hLL]; exact hL6
  clear h hv hrow hrel hL hL6 hb hs hm hLL hD hrW hi hk
  go_enter Try.func10, Try.ntmps10
  go_upto_region 1 with fail
  generalize (((w.alloc (.cells #[.int .i64 most, .slice a L c] 27)).alloc (.cells #[.int .i64 2, .int .i64 ((i : Int) + 1), .int .i64 x] 33)).alloc (.cells #[.int .i64 0, .slice none 0 0] 27)) = W at *
  have HP := hide hP
  obtain ⟨m0, m1, o0, o1, o2, r0, r1, rf⟩ := hP
  go_wp2_with fail
  refine (unhide C1).mono ?_
  rintro e u1 ⟨v', rfl, h1⟩
  obtain ⟨R1, b1⟩ := unhide h1
  have D0 := (unhide HD).list b1 R1
  have ba : Below u1.heap.size u1 (u1.alloc (.cells #[.int .i64 most, v'] 27)) := (Below.refl _ _).alloc (Nat.le_refl _) _
  have b4 := b1.trans (ba.mono b1.size)
  have K1 := (unhide HD).kx b4
  have R2 := items_below (items_kept R1 (fun _ _ => rfl)) ba
  have hP1 := (unhide HP).kept K1
  obtain ⟨q0, q1, -⟩ := box2 u1 (.int .i64 most) v' 27
  have HK1 := (unhide HKW).trans (kx_sub K1)
  have hv2 : ∀ b, v'.ownBlock = some b → b ≠ w.heap.size + 2 := fun b hb => by
    have h4 := (R1.lt b hb).1
    have h5 := (unhide HD).xlt (w.heap.size + 2) (.inr (.inr (.inr rfl)))
    omega
  obtain ⟨a3, c3, rfl⟩ := item_shape (items_kept R1 (fun _ _ => rfl))
  obtain ⟨g, hg⟩ : ∃ g, g = u1.heap.size := ⟨_, rfl⟩
  have HGN : Hid (g ≠ w.heap.size + 2) := by
    have h5 := (unhide HD).xlt (w.heap.size + 2) (.inr (.inr (.inr rfl)))
    have h6 := b1.size
    show g ≠ _
    omega
  have C3 : Hid (∀ z, Calls Try.prog 17 #[.pointer (some ⟨t, 0, none⟩), .int .i64 ((i : Int) + 1), .int .i64 x] ((u1.alloc (.cells #[.int .i64 most, .slice a3 (L + 1) c3] 27)).drewN z) fun e w' => e = .returned (.bool true) ∧ (w'.cell? ⟨g, 0, none⟩ = some (.int .i64 most) ∧ w'.cell? ⟨g, 1, none⟩ = some (.slice a3 (L + 1) c3) ∧ w'.cell? ⟨w.heap.size + 1, 1, none⟩ = some (.int .i64 ((i : Int) + 1)) ∧ w'.cell? ⟨w.heap.size + 1, 2, none⟩ = some (.int .i64 x)) ∧ (w'.cell? ⟨w.heap.size + 2, 0, none⟩ = some (.int .i64 0) ∧ w'.cell? ⟨w.heap.size + 2, 1, none⟩ = some (.slice none 0 0) ∧ ∀ o, w'.frozen? ⟨w.heap.size + 2, o, none⟩ = false) ∧ Hid (Played X B w0 t most n L w (.slice a3 (L + 1) c3) ((w'.setCell ⟨w.heap.size + 2, 0, none⟩ (.int .i64 most)).setCell ⟨w.heap.size + 2, 1, none⟩ (.slice a3 (L + 1) c3)))) := fun z => by
    have D2 : Duo (fun b => (X3 X w.heap.size b ∨ (.slice a3 (L + 1) c3 : Value).ownBlock = some b) ∨ b = g) B w0 t most ps n ((u1.alloc (.cells #[.int .i64 most, .slice a3 (L + 1) c3] 27)).drewN z) := (D0.next ba (fun b (hb : (X3 X w.heap.size b ∨ (.slice a3 (L + 1) c3 : Value).ownBlock = some b) ∨ b = g) => hb.imp id (fun e => by subst e; rw [hg]; exact ⟨Nat.le_refl _, by simp⟩))).draw z
    refine (unhide C2 _ _ D2).mono ?_
    rintro e w' ⟨he, hh⟩
    obtain ⟨n', l', D3, K3⟩ := unhide hh
    have hP3 : P3 w.heap.size _ _ _ _ _ w' := P3.kept (X := X) (show P3 w.heap.size _ _ _ _ _ ((u1.alloc (.cells #[.int .i64 most, .slice a3 (L + 1) c3] 27)).drewN z) from hP1.kept (X := X) (KX.refl _ _)) (K3.mono (fun b hb => .inl (.inl hb)))
    have kg := K3 g (.inr rfl)
    rw [hg] at kg
    refine ⟨he, ⟨?_, ?_, hP3.o1, hP3.o2⟩, ⟨hP3.r0, hP3.r1, hP3.rf⟩, end3 (unhide HX) (unhide HB) (D3.sub (fun b hb => .inl hb)) (HK1.trans (fun b hb => K3 b (.inl (.inl (.inl hb))))) (unhide HREL) l' (by rw [List.length_append, unhide HLL]; simp) (by rw [List.length_append, unhide HLL]; exact items_kept R2 (fun b hb => K3 b (.inl (.inr hb)))) hv2⟩
    · rw [hg]; exact (cell_of_heap (x := ⟨u1.heap.size, 0, none⟩) kg).trans q0
    · rw [hg]; exact (cell_of_heap (x := ⟨u1.heap.size, 1, none⟩) kg).trans q1
  obtain ⟨m0, m1, o0, o1, o2, r0, r1, rf⟩ := hP1
  clear C1 C2 h1 b1 ba b4 K1 HKW HRW HP HD D0 R1 R2 HK1 HX HB HREL0 hv2
  generalize L + 1 = L3 at *
  go_upto_region 9 with fail
  rw [← hg] at q0 q1 ⊢
  generalize hu2 : (u1.alloc (.cells #[.int .i64 most, .slice a3 L3 c3] 27)) = u2 at *
  have gn1 : ¬ g = w.heap.size + 2 := unhide HGN
  have gn2 : ¬ g = w.heap.size + 1 + 1 := unhide HGN
  have gn3 : ¬ w.heap.size + 2 = g := fun e => gn1 e.symm
  have gn4 : ¬ w.heap.size + 1 + 1 = g := fun e => gn1 e.symm
  clear hu2 hg HGN
  go_region_held3 (fun w' => w'.cell? ⟨g, 0, none⟩ = some (.int .i64 most) ∧ w'.cell? ⟨g, 1, none⟩ = some (.slice a3 L3 c3) ∧ w'.cell? ⟨w.heap.size + 1, 1, none⟩ = some (.int .i64 ((i : Int) + 1)) ∧ w'.cell? ⟨w.heap.size + 1, 2, none⟩ = some (.int .i64 x)) (first | go_keep | exact ⟨dd0, dd1, dd2, dd3⟩ | ((try dsimp only); (repeat' apply And.intro) <;> first | go_keep | assumption)) ((go_at_call 17; refine (unhide C3 _).mono ?_; rintro e w' ⟨rfl, ⟨dd0, dd1, dd2, dd3⟩, ⟨r0, r1, rf⟩, hE⟩))
  all_goals
    go_wp2_with fail
    have HR := hide (stored2 r0 r1 (.int .i64 most) (.slice a3 L3 c3))
    (try simp only [Exit.inBlock, Exit.then])
    refine bodyPost_ret (res2 rfl _ _ (w.heap.size + 2) _ _ rfl (unhide HR).1 (unhide HR).2) rfl ?_
    exact ⟨_, rfl, unhide hE⟩

theorem out_at {ps : List (Int × Bool)} {its : List (Int × Int)} (h : Rel ps its) {k : Int} (hno : ∀ (i : Nat) a, k = (i : Int) + 1 → ps[i]? ≠ some (a, true)) : Out its k := by
  by_cases h1 : k < 1
  · exact rel_out_low h h1
  · obtain ⟨i, rfl⟩ : ∃ i : Nat, k = (i : Int) + 1 := ⟨(k - 1).toNat, by omega⟩
    exact rel_out h (fun a => hno i a rfl)

set_option maxHeartbeats 2000000 in
set_option maxRecDepth 100000 in
theorem playSetNo [Inhabited EntI] {X : Nat → Prop} {B : Nat} {w0 w : World} {t n : Nat} {most : Int} {ps : List (Int × Bool)} {v : Value} {its : List (Int × Int)} (k x : Int) (h : Duo X B w0 t most ps n w) (hv : ∀ b, v.ownBlock = some b → X b) (hrow : w.ownsRow 0 47 2 v its.length (enc .i64 its)) (hrel : Rel ps its) (hL : its.length ≤ 100000) (_ : n ≤ 500000000)
    (hno : ∀ (i : Nat) a, k = (i : Int) + 1 → ps[i]? ≠ some (a, true)) :
    Calls Try.prog 10 #[.pointer (some ⟨t, 0, none⟩), .agg #[.int .i64 most, v], .agg #[.int .i64 4, .int .i64 k, .int .i64 x]] w fun e w' => ∃ v', e = .returned (.tuple #[.agg #[.int .i64 most, v'], .bool true]) ∧ Hid (Played X B w0 t most n its.length w v' w') := by
  obtain ⟨hP, hD, hb, hs⟩ := begin3 h (.int .i64 most) v (.int .i64 4) (.int .i64 k) (.int .i64 x)
  have hm := h.live.fits
  have hL6 : its.length ≤ 1000000 := Nat.le_trans hL (by omega)
  have hrW := items_below hrow hb
  have C1 := hide (refSetNo most k x _ hrW hL6 (out_at hrel hno))
  have C2 : Hid (∀ u, Duo (X3 X w.heap.size) B w0 t most ps n u → Calls Try.prog 20 #[.pointer (some ⟨t, 0, none⟩), .int .i64 k, .int .i64 x] u fun e w' => e = .returned (.bool false) ∧ w' = u) := fun u hu => setNoLN k x hu.live hno
  have HD := hide hD
  have HRW := hide hrW
  have HREL0 := hide hrel
  have HX := hide h.xlt
  have HB := hide h.room
  have HV := hide hv
  have HKW : Hid (KX X w (((w.alloc (.cells #[.int .i64 most, v] 27)).alloc (.cells #[.int .i64 4, .int .i64 k, .int .i64 x] 33)).alloc (.cells #[.int .i64 0, .slice none 0 0] 27))) := h.kx hb
  obtain ⟨a, c, rfl⟩ := item_shape hrow
  have HM := hide hm
  generalize hLL : its.length = L at *
  have HLL := hide hLL
  have HL6 : Hid (its.length ≤ 1000000) := by rw [hLL]; exact hL6
  clear h hv hrow hrel hL hL6 hb hs hm hLL hD hrW hno
  go_enter Try.func10, Try.ntmps10
  go_upto_region 1 with fail
  generalize (((w.alloc (.cells #[.int .i64 most, .slice a L c] 27)).alloc (.cells #[.int .i64 4, .int .i64 k, .int .i64 x] 33)).alloc (.cells #[.int .i64 0, .slice none 0 0] 27)) = W at *
  have HP := hide hP
  obtain ⟨m0, m1, o0, o1, o2, r0, r1, rf⟩ := hP
  go_wp2_with fail
  refine (unhide C1).mono ?_
  rintro e u1 ⟨rfl, b1⟩
  have ba : Below u1.heap.size u1 (u1.alloc (.cells #[.int .i64 most, .slice a L c] 27)) := (Below.refl _ _).alloc (Nat.le_refl _) _
  have b4 := (unhide b1).trans (ba.mono (unhide b1).size)
  have D1 := (unhide HD).step b4
  have K1 := (unhide HD).kx b4
  have R1 := row_kx (unhide HRW) (unhide HV) K1
  have hP1 := (unhide HP).kept K1
  obtain ⟨q0, q1, -⟩ := box2 u1 (.int .i64 most) (.slice a L c) 27
  have HK1 := (unhide HKW).trans (kx_sub K1)
  obtain ⟨g, hg⟩ : ∃ g, g = u1.heap.size := ⟨_, rfl⟩
  have HGN : Hid (g ≠ w.heap.size + 2) := by
    have h5 := (unhide HD).xlt (w.heap.size + 2) (.inr (.inr (.inr rfl)))
    have h6 := (unhide b1).size
    show g ≠ _
    omega
  have C3 : Hid (∀ z, Calls Try.prog 20 #[.pointer (some ⟨t, 0, none⟩), .int .i64 k, .int .i64 x] ((u1.alloc (.cells #[.int .i64 most, .slice a L c] 27)).drewN z) fun e w' => e = .returned (.bool false) ∧ (w'.cell? ⟨g, 0, none⟩ = some (.int .i64 most) ∧ w'.cell? ⟨g, 1, none⟩ = some (.slice a L c) ∧ w'.cell? ⟨w.heap.size + 1, 1, none⟩ = some (.int .i64 k) ∧ w'.cell? ⟨w.heap.size + 1, 2, none⟩ = some (.int .i64 x)) ∧ (w'.cell? ⟨w.heap.size + 2, 0, none⟩ = some (.int .i64 0) ∧ w'.cell? ⟨w.heap.size + 2, 1, none⟩ = some (.slice none 0 0) ∧ ∀ o, w'.frozen? ⟨w.heap.size + 2, o, none⟩ = false) ∧ Hid (Played X B w0 t most n L w (.slice a L c) ((w'.setCell ⟨w.heap.size + 2, 0, none⟩ (.int .i64 most)).setCell ⟨w.heap.size + 2, 1, none⟩ (.slice a L c)))) := fun z => by
    refine (unhide C2 _ (D1.draw z)).mono ?_
    rintro e w' ⟨he, rfl⟩
    rw [hg]
    exact ⟨he, ⟨q0, q1, hP1.o1, hP1.o2⟩, ⟨hP1.r0, hP1.r1, hP1.rf⟩, end3 (unhide HX) (unhide HB) ((D1.draw z).same (unhide HV)) HK1 (unhide HREL0) (by omega) (by rw [unhide HLL]; omega) (by rw [unhide HLL]; exact R1) (fun b hb e => by have := unhide HX b (unhide HV b hb); omega)⟩
  obtain ⟨m0, m1, o0, o1, o2, r0, r1, rf⟩ := hP1
  clear C1 C2 b1 ba b4 K1 HKW HRW HP HD D1 R1 HK1 HX HB HREL0
  go_upto_region 16 with fail
  rw [← hg] at q0 q1 ⊢
  generalize hu2 : (u1.alloc (.cells #[.int .i64 most, .slice a L c] 27)) = u2 at *
  have gn1 : ¬ g = w.heap.size + 2 := unhide HGN
  have gn2 : ¬ g = w.heap.size + 1 + 1 := unhide HGN
  have gn3 : ¬ w.heap.size + 2 = g := fun e => gn1 e.symm
  have gn4 : ¬ w.heap.size + 1 + 1 = g := fun e => gn1 e.symm
  clear hu2 hg HGN
  go_region_held3 (fun w' => w'.cell? ⟨g, 0, none⟩ = some (.int .i64 most) ∧ w'.cell? ⟨g, 1, none⟩ = some (.slice a L c) ∧ w'.cell? ⟨w.heap.size + 1, 1, none⟩ = some (.int .i64 k) ∧ w'.cell? ⟨w.heap.size + 1, 2, none⟩ = some (.int .i64 x)) (first | go_keep | exact ⟨dd0, dd1, dd2, dd3⟩ | ((try dsimp only); (repeat' apply And.intro) <;> first | go_keep | assumption)) ((go_at_call 20; refine (unhide C3 _).mono ?_; rintro e w' ⟨rfl, ⟨dd0, dd1, dd2, dd3⟩, ⟨r0, r1, rf⟩, hE⟩))
  all_goals
    go_wp2_with fail
    have HR := hide (stored2 r0 r1 (.int .i64 most) (.slice a L c))
    (try simp only [Exit.inBlock, Exit.then])
    refine bodyPost_ret (res2 rfl _ _ (w.heap.size + 2) _ _ rfl (unhide HR).1 (unhide HR).2) rfl ?_
    exact ⟨_, rfl, unhide hE⟩

set_option maxHeartbeats 2000000 in
set_option maxRecDepth 100000 in
theorem playSetYes [Inhabited EntI] {X : Nat → Prop} {B : Nat} {w0 w : World} {t n : Nat} {most : Int} {ps : List (Int × Bool)} {v : Value} {its : List (Int × Int)} (i : Nat) (x : Int) (h : Duo X B w0 t most ps n w) (hv : ∀ b, v.ownBlock = some b → X b) (hrow : w.ownsRow 0 47 2 v its.length (enc .i64 its)) (hrel : Rel ps its) (hL : its.length ≤ 100000) (_ : n ≤ 500000000)
    {a0 : Int} (hp : ps[i]? = some (a0, true)) :
    Calls Try.prog 10 #[.pointer (some ⟨t, 0, none⟩), .agg #[.int .i64 most, v], .agg #[.int .i64 4, .int .i64 ((i : Int) + 1), .int .i64 x]] w fun e w' => ∃ v', e = .returned (.tuple #[.agg #[.int .i64 most, v'], .bool true]) ∧ Hid (Played X B w0 t most n its.length w v' w') := by
  obtain ⟨hP, hD, hb, hs⟩ := begin3 h (.int .i64 most) v (.int .i64 4) (.int .i64 ((i : Int) + 1)) (.int .i64 x)
  have hm := h.live.fits
  have hL6 : its.length ≤ 1000000 := Nat.le_trans hL (by omega)
  have hrW := items_below hrow hb
  obtain ⟨j, j1, j2, j3, j4⟩ := rel_index hrel hp
  have C1 := hide (refSetYes most ((i : Int) + 1) x j _ hrW hL6 j1 j2 j4)
  have C2 : Hid (∀ X' u, Duo X' B w0 t most ps n u → Calls Try.prog 20 #[.pointer (some ⟨t, 0, none⟩), .int .i64 ((i : Int) + 1), .int .i64 x] u fun e w' => e = .returned (.bool true) ∧ Hid (∃ n', n' ≤ n + 65536 ∧ Duo X' B w0 t most (ps.set i (x, true)) n' w' ∧ KX X' u w')) := fun X' u hu => dSet i x hu hp
  have HREL := hide (rel_set hrel hp (by rw [← j2, ← j3]; exact item_at j1) x)
  have HD := hide hD
  have HRW := hide hrW
  have HREL0 := hide hrel
  have HX := hide h.xlt
  have HB := hide h.room
  have HV := hide hv
  have HKW : Hid (KX X w (((w.alloc (.cells #[.int .i64 most, v] 27)).alloc (.cells #[.int .i64 4, .int .i64 ((i : Int) + 1), .int .i64 x] 33)).alloc (.cells #[.int .i64 0, .slice none 0 0] 27))) := h.kx hb
  obtain ⟨a, c, rfl⟩ := item_shape hrow
  have HM := hide hm
  generalize hLL : its.length = L at *
  have HLL := hide hLL
  have HL6 : Hid (its.length ≤ 1000000) := by rw [hLL]; exact hL6
  clear h hv hrow hrel hL hL6 hb hs hm hLL hD hrW hp j1 j2 j3 j4
  go_enter Try.func10, Try.ntmps10
  go_upto_region 1 with fail
  generalize (((w.alloc (.cells #[.int .i64 most, .slice a L c] 27)).alloc (.cells #[.int .i64 4, .int .i64 ((i : Int) + 1), .int .i64 x] 33)).alloc (.cells #[.int .i64 0, .slice none 0 0] 27)) = W at *
  have HP := hide hP
  obtain ⟨m0, m1, o0, o1, o2, r0, r1, rf⟩ := hP
  go_wp2_with fail
  refine (unhide C1).mono ?_
  rintro e u1 ⟨v', rfl, h1⟩
  obtain ⟨R1, b1⟩ := unhide h1
  have D0 := (unhide HD).list b1 R1
  have ba : Below u1.heap.size u1 (u1.alloc (.cells #[.int .i64 most, v'] 27)) := (Below.refl _ _).alloc (Nat.le_refl _) _
  have b4 := b1.trans (ba.mono b1.size)
  have K1 := (unhide HD).kx b4
  have R2 := items_below (items_kept R1 (fun _ _ => rfl)) ba
  have hP1 := (unhide HP).kept K1
  obtain ⟨q0, q1, -⟩ := box2 u1 (.int .i64 most) v' 27
  have HK1 := (unhide HKW).trans (kx_sub K1)
  have hv2 : ∀ b, v'.ownBlock = some b → b ≠ w.heap.size + 2 := fun b hb => by
    have h4 := (R1.lt b hb).1
    have h5 := (unhide HD).xlt (w.heap.size + 2) (.inr (.inr (.inr rfl)))
    omega
  obtain ⟨a3, c3, rfl⟩ := item_shape (items_kept R1 (fun _ _ => rfl))
  obtain ⟨g, hg⟩ : ∃ g, g = u1.heap.size := ⟨_, rfl⟩
  have HGN : Hid (g ≠ w.heap.size + 2) := by
    have h5 := (unhide HD).xlt (w.heap.size + 2) (.inr (.inr (.inr rfl)))
    have h6 := b1.size
    show g ≠ _
    omega
  have C3 : Hid (∀ z, Calls Try.prog 20 #[.pointer (some ⟨t, 0, none⟩), .int .i64 ((i : Int) + 1), .int .i64 x] ((u1.alloc (.cells #[.int .i64 most, .slice a3 L c3] 27)).drewN z) fun e w' => e = .returned (.bool true) ∧ (w'.cell? ⟨g, 0, none⟩ = some (.int .i64 most) ∧ w'.cell? ⟨g, 1, none⟩ = some (.slice a3 L c3) ∧ w'.cell? ⟨w.heap.size + 1, 1, none⟩ = some (.int .i64 ((i : Int) + 1)) ∧ w'.cell? ⟨w.heap.size + 1, 2, none⟩ = some (.int .i64 x)) ∧ (w'.cell? ⟨w.heap.size + 2, 0, none⟩ = some (.int .i64 0) ∧ w'.cell? ⟨w.heap.size + 2, 1, none⟩ = some (.slice none 0 0) ∧ ∀ o, w'.frozen? ⟨w.heap.size + 2, o, none⟩ = false) ∧ Hid (Played X B w0 t most n L w (.slice a3 L c3) ((w'.setCell ⟨w.heap.size + 2, 0, none⟩ (.int .i64 most)).setCell ⟨w.heap.size + 2, 1, none⟩ (.slice a3 L c3)))) := fun z => by
    have D2 : Duo (fun b => (X3 X w.heap.size b ∨ (.slice a3 L c3 : Value).ownBlock = some b) ∨ b = g) B w0 t most ps n ((u1.alloc (.cells #[.int .i64 most, .slice a3 L c3] 27)).drewN z) := (D0.next ba (fun b (hb : (X3 X w.heap.size b ∨ (.slice a3 L c3 : Value).ownBlock = some b) ∨ b = g) => hb.imp id (fun e => by subst e; rw [hg]; exact ⟨Nat.le_refl _, by simp⟩))).draw z
    refine (unhide C2 _ _ D2).mono ?_
    rintro e w' ⟨he, hh⟩
    obtain ⟨n', l', D3, K3⟩ := unhide hh
    have hP3 : P3 w.heap.size _ _ _ _ _ w' := P3.kept (X := X) (show P3 w.heap.size _ _ _ _ _ ((u1.alloc (.cells #[.int .i64 most, .slice a3 L c3] 27)).drewN z) from hP1.kept (X := X) (KX.refl _ _)) (K3.mono (fun b hb => .inl (.inl hb)))
    have kg := K3 g (.inr rfl)
    rw [hg] at kg
    refine ⟨he, ⟨?_, ?_, hP3.o1, hP3.o2⟩, ⟨hP3.r0, hP3.r1, hP3.rf⟩, end3 (unhide HX) (unhide HB) (D3.sub (fun b hb => .inl hb)) (HK1.trans (fun b hb => K3 b (.inl (.inl (.inl hb))))) (unhide HREL) l' (by rw [List.length_set, unhide HLL]; omega) (by rw [List.length_set, unhide HLL]; exact items_kept R2 (fun b hb => K3 b (.inl (.inr hb)))) hv2⟩
    · rw [hg]; exact (cell_of_heap (x := ⟨u1.heap.size, 0, none⟩) kg).trans q0
    · rw [hg]; exact (cell_of_heap (x := ⟨u1.heap.size, 1, none⟩) kg).trans q1
  obtain ⟨m0, m1, o0, o1, o2, r0, r1, rf⟩ := hP1
  clear C1 C2 h1 b1 ba b4 K1 HKW HRW HP HD D0 R1 R2 HK1 HX HB HREL0 hv2
  go_upto_region 16 with fail
  rw [← hg] at q0 q1 ⊢
  generalize hu2 : (u1.alloc (.cells #[.int .i64 most, .slice a3 L c3] 27)) = u2 at *
  have gn1 : ¬ g = w.heap.size + 2 := unhide HGN
  have gn2 : ¬ g = w.heap.size + 1 + 1 := unhide HGN
  have gn3 : ¬ w.heap.size + 2 = g := fun e => gn1 e.symm
  have gn4 : ¬ w.heap.size + 1 + 1 = g := fun e => gn1 e.symm
  clear hu2 hg HGN
  go_region_held3 (fun w' => w'.cell? ⟨g, 0, none⟩ = some (.int .i64 most) ∧ w'.cell? ⟨g, 1, none⟩ = some (.slice a3 L c3) ∧ w'.cell? ⟨w.heap.size + 1, 1, none⟩ = some (.int .i64 ((i : Int) + 1)) ∧ w'.cell? ⟨w.heap.size + 1, 2, none⟩ = some (.int .i64 x)) (first | go_keep | exact ⟨dd0, dd1, dd2, dd3⟩ | ((try dsimp only); (repeat' apply And.intro) <;> first | go_keep | assumption)) ((go_at_call 20; refine (unhide C3 _).mono ?_; rintro e w' ⟨rfl, ⟨dd0, dd1, dd2, dd3⟩, ⟨r0, r1, rf⟩, hE⟩))
  all_goals
    go_wp2_with fail
    have HR := hide (stored2 r0 r1 (.int .i64 most) (.slice a3 L c3))
    (try simp only [Exit.inBlock, Exit.then])
    refine bodyPost_ret (res2 rfl _ _ (w.heap.size + 2) _ _ rfl (unhide HR).1 (unhide HR).2) rfl ?_
    exact ⟨_, rfl, unhide hE⟩

set_option maxHeartbeats 2000000 in
set_option maxRecDepth 100000 in
theorem playDropNo [Inhabited EntI] {X : Nat → Prop} {B : Nat} {w0 w : World} {t n : Nat} {most : Int} {ps : List (Int × Bool)} {v : Value} {its : List (Int × Int)} (k x : Int) (h : Duo X B w0 t most ps n w) (hv : ∀ b, v.ownBlock = some b → X b) (hrow : w.ownsRow 0 47 2 v its.length (enc .i64 its)) (hrel : Rel ps its) (hL : its.length ≤ 100000) (_ : n ≤ 500000000)
    (hno : ∀ (i : Nat) a, k = (i : Int) + 1 → ps[i]? ≠ some (a, true)) :
    Calls Try.prog 10 #[.pointer (some ⟨t, 0, none⟩), .agg #[.int .i64 most, v], .agg #[.int .i64 5, .int .i64 k, .int .i64 x]] w fun e w' => ∃ v', e = .returned (.tuple #[.agg #[.int .i64 most, v'], .bool true]) ∧ Hid (Played X B w0 t most n its.length w v' w') := by
  obtain ⟨hP, hD, hb, hs⟩ := begin3 h (.int .i64 most) v (.int .i64 5) (.int .i64 k) (.int .i64 x)
  have hm := h.live.fits
  have hL6 : its.length ≤ 1000000 := Nat.le_trans hL (by omega)
  have hrW := items_below hrow hb
  have C1 := hide (dropNoLN k hD.live hno)
  have HO := hide (out_at hrel hno)
  have HD := hide hD
  have HRW := hide hrW
  have HREL0 := hide hrel
  have HX := hide h.xlt
  have HB := hide h.room
  have HV := hide hv
  have HKW : Hid (KX X w (((w.alloc (.cells #[.int .i64 most, v] 27)).alloc (.cells #[.int .i64 5, .int .i64 k, .int .i64 x] 33)).alloc (.cells #[.int .i64 0, .slice none 0 0] 27))) := h.kx hb
  obtain ⟨a, c, rfl⟩ := item_shape hrow
  have HM := hide hm
  generalize hLL : its.length = L at *
  have HLL := hide hLL
  have HL6 : Hid (its.length ≤ 1000000) := by rw [hLL]; exact hL6
  clear h hv hrow hrel hL hL6 hb hs hm hLL hD hrW hno
  go_enter Try.func10, Try.ntmps10
  go_upto_region 1 with fail
  generalize (((w.alloc (.cells #[.int .i64 most, .slice a L c] 27)).alloc (.cells #[.int .i64 5, .int .i64 k, .int .i64 x] 33)).alloc (.cells #[.int .i64 0, .slice none 0 0] 27)) = W at *
  have HP := hide hP
  obtain ⟨m0, m1, o0, o1, o2, r0, r1, rf⟩ := hP
  go_wp2_with fail
  refine (unhide C1).mono ?_
  rintro e u1 ⟨rfl, rfl⟩
  have CP := hide (refDropNo most k u1 (by rw [unhide HLL]; exact unhide HRW) (unhide HL6) (unhide HO))
  clear C1 HO
  go_wp2_with fail
  refine (unhide CP).mono ?_
  rintro e u3 ⟨rfl, b3⟩
  have ba : Below u3.heap.size u3 (u3.alloc (.cells #[.int .i64 most, .slice a L c] 27)) := (Below.refl _ _).alloc (Nat.le_refl _) _
  have b4 := (unhide b3).trans (ba.mono (unhide b3).size)
  have D3 := (unhide HD).step b4
  have K3 := (unhide HD).kx b4
  have R3 := row_kx (unhide HRW) (unhide HV) K3
  have hP3 := (unhide HP).kept K3
  obtain ⟨q0, q1, qf⟩ := box2 u3 (.int .i64 most) (.slice a L c) 27
  have HK3 := (unhide HKW).trans (kx_sub K3)
  have HR := hide (stored2 hP3.r0 hP3.r1 (.int .i64 most) (.slice a L c))
  have HE : Hid (Played X B w0 t most n L w (.slice a L c) (((u3.alloc (.cells #[.int .i64 most, .slice a L c] 27)).setCell ⟨w.heap.size + 2, 0, none⟩ (.int .i64 most)).setCell ⟨w.heap.size + 2, 1, none⟩ (.slice a L c))) :=
    end3 (unhide HX) (unhide HB) ((D3).same (unhide HV)) HK3 (unhide HREL0) (by omega) (by rw [unhide HLL]; omega) (by rw [unhide HLL]; exact R3) (fun b hb e => by have := unhide HX b (unhide HV b hb); omega)
  obtain ⟨m0, m1, o0, o1, o2, r0, r1, rf⟩ := hP3
  clear CP b3 ba b4 R3 D3 K3 HD HP HK3 HX HB
  go_upto_region 20 with fail
  generalize (u3.alloc (.cells #[.int .i64 most, .slice a L c] 27)) = u4 at *
  go_wp2_with fail
  (try simp only [Exit.inBlock, Exit.then])
  refine bodyPost_ret (res2 rfl _ _ (w.heap.size + 2) _ _ rfl (unhide HR).1 (unhide HR).2) rfl ?_
  exact ⟨_, rfl, unhide HE⟩

set_option maxHeartbeats 2000000 in
set_option maxRecDepth 100000 in
theorem playDropYes [Inhabited EntI] {X : Nat → Prop} {B : Nat} {w0 w : World} {t n : Nat} {most : Int} {ps : List (Int × Bool)} {v : Value} {its : List (Int × Int)} (i : Nat) (x : Int) (h : Duo X B w0 t most ps n w) (hv : ∀ b, v.ownBlock = some b → X b) (hrow : w.ownsRow 0 47 2 v its.length (enc .i64 its)) (hrel : Rel ps its) (hL : its.length ≤ 100000) (hn : n ≤ 500000000)
    {a0 : Int} (hp : ps[i]? = some (a0, true)) :
    Calls Try.prog 10 #[.pointer (some ⟨t, 0, none⟩), .agg #[.int .i64 most, v], .agg #[.int .i64 5, .int .i64 ((i : Int) + 1), .int .i64 x]] w fun e w' => ∃ v', e = .returned (.tuple #[.agg #[.int .i64 most, v'], .bool true]) ∧ Hid (Played X B w0 t most n its.length w v' w') := by
  obtain ⟨hP, hD, hb, hs⟩ := begin3 h (.int .i64 most) v (.int .i64 5) (.int .i64 ((i : Int) + 1)) (.int .i64 x)
  have hm := h.live.fits
  have hL6 : its.length ≤ 1000000 := Nat.le_trans hL (by omega)
  have hrW := items_below hrow hb
  obtain ⟨j, j1, j2, j3, j4⟩ := rel_index hrel hp
  have C1 := hide (dDrop i hD hp (by omega))
  have HREL := hide (rel_drop hrel hp (by rw [← j2, ← j3]; exact item_at j1))
  have HLN : Hid ((its.take j ++ its.drop (j + 1)).length = its.length - 1) := by show _ = _; simp; omega
  have C2 : Hid (∀ u, u.ownsRow 0 47 2 v its.length (enc .i64 its) → Calls Try.prog 35 #[.agg #[.int .i64 most, v], .int .i64 ((i : Int) + 1)] u fun e w' => ∃ v', e = .returned (.tuple #[.agg #[.int .i64 most, v'], .int .i64 a0, .bool true]) ∧ Hid (w'.ownsRow u.heap.size 47 2 v' (its.length - 1) (enc .i64 (its.take j ++ its.drop (j + 1))) ∧ Below u.heap.size u w')) := fun u hu => by
    have := refDropYes most ((i : Int) + 1) j u hu hL6 j1 j2 j4
    rw [j3] at this
    exact this
  have HD := hide hD
  have HRW := hide hrW
  have HREL0 := hide hrel
  have HX := hide h.xlt
  have HB := hide h.room
  have HV := hide hv
  have HKW : Hid (KX X w (((w.alloc (.cells #[.int .i64 most, v] 27)).alloc (.cells #[.int .i64 5, .int .i64 ((i : Int) + 1), .int .i64 x] 33)).alloc (.cells #[.int .i64 0, .slice none 0 0] 27))) := h.kx hb
  obtain ⟨a, c, rfl⟩ := item_shape hrow
  have HM := hide hm
  generalize hLL : its.length = L at *
  have HLL := hide hLL
  have HL6 : Hid (its.length ≤ 1000000) := by rw [hLL]; exact hL6
  clear h hv hrow hrel hL hL6 hb hs hm hLL hD hrW hp j1 j2 j3 j4
  go_enter Try.func10, Try.ntmps10
  go_upto_region 1 with fail
  generalize (((w.alloc (.cells #[.int .i64 most, .slice a L c] 27)).alloc (.cells #[.int .i64 5, .int .i64 ((i : Int) + 1), .int .i64 x] 33)).alloc (.cells #[.int .i64 0, .slice none 0 0] 27)) = W at *
  have HP := hide hP
  obtain ⟨m0, m1, o0, o1, o2, r0, r1, rf⟩ := hP
  go_wp2_with fail
  refine (unhide C1).mono ?_
  rintro e u1 ⟨rfl, h1⟩
  obtain ⟨n1, l1, D1, K1⟩ := unhide h1
  have hP1 := (unhide HP).kept K1
  have R1 := row_kx (unhide HRW) (unhide HV) K1
  have CP := hide (unhide C2 u1 R1)
  have HP1 := hide hP1
  obtain ⟨m0, m1, o0, o1, o2, r0, r1, rf⟩ := hP1
  have HD1 := hide D1
  have HK1 := hide ((unhide HKW).trans (kx_sub K1))
  have Hl1 := hide l1
  clear C1 C2 h1 D1 K1 l1 R1 HKW HRW HP HD
  generalize hn3 : L - 1 = n3 at *
  have HN3 := hide hn3
  clear hn3
  go_wp2_with fail
  refine (unhide CP).mono ?_
  rintro e u3 ⟨v', rfl, h3⟩
  obtain ⟨R3, b3⟩ := unhide h3
  have D3 := (unhide HD1).list b3 R3
  have K3 := (unhide HD1).kx b3
  have hP3 := ((unhide HP1).kept K3).alloc (.cells #[.int .i64 most, v'] 27)
  obtain ⟨q0, q1, qf⟩ := box2 u3 (.int .i64 most) v' 27
  obtain ⟨a3, c3, rfl⟩ := item_shape (items_kept R3 (fun _ _ => rfl))
  have HR := hide (stored2 hP3.r0 hP3.r1 (.int .i64 most) (.slice a3 n3 c3))
  have HE : Hid (Played X B w0 t most n L w (.slice a3 n3 c3) (((u3.alloc (.cells #[.int .i64 most, .slice a3 n3 c3] 27)).setCell ⟨w.heap.size + 2, 0, none⟩ (.int .i64 most)).setCell ⟨w.heap.size + 2, 1, none⟩ (.slice a3 n3 c3))) := by
    have ba : Below u3.heap.size u3 (u3.alloc (.cells #[.int .i64 most, .slice a3 n3 c3] 27)) := (Below.refl _ _).alloc (Nat.le_refl _) _
    refine end3 (unhide HX) (unhide HB) (D3.step ba) (((unhide HK1).trans (kx_sub K3)).trans (fun b hb => ba.block b (D3.xlt b (.inl (.inl hb))))) (unhide HREL) (unhide Hl1) (by rw [unhide HLN]; have := unhide HN3; omega) (by rw [unhide HLN]; exact items_below (items_kept R3 (fun _ _ => rfl)) ba) (fun b hb => ?_)
    have h4 := (R3.lt b hb).1
    have h5 := (unhide HD1).xlt (w.heap.size + 2) (.inr (.inr (.inr rfl)))
    omega
  obtain ⟨m0, m1, o0, o1, o2, r0, r1, rf⟩ := hP3
  clear CP h3 R3 b3 D3 K3 HD1 HK1 HP1 HREL HX HB HLN HN3
  go_upto_region 20 with fail
  generalize (u3.alloc (.cells #[.int .i64 most, .slice a3 n3 c3] 27)) = u4 at *
  go_wp2_with fail
  (try simp only [Exit.inBlock, Exit.then])
  refine bodyPost_ret (res2 rfl _ _ (w.heap.size + 2) _ _ rfl (unhide HR).1 (unhide HR).2) rfl ?_
  exact ⟨_, rfl, unhide HE⟩

set_option maxHeartbeats 2000000 in
set_option maxRecDepth 100000 in
theorem playAtNo [Inhabited EntI] {X : Nat → Prop} {B : Nat} {w0 w : World} {t n : Nat} {most : Int} {ps : List (Int × Bool)} {v : Value} {its : List (Int × Int)} (k x : Int) (h : Duo X B w0 t most ps n w) (hv : ∀ b, v.ownBlock = some b → X b) (hrow : w.ownsRow 0 47 2 v its.length (enc .i64 its)) (hrel : Rel ps its) (hL : its.length ≤ 100000) (_ : n ≤ 500000000)
    (hno : ∀ (i : Nat) a, k = (i : Int) + 1 → ps[i]? ≠ some (a, true)) :
    Calls Try.prog 10 #[.pointer (some ⟨t, 0, none⟩), .agg #[.int .i64 most, v], .agg #[.int .i64 3, .int .i64 k, .int .i64 x]] w fun e w' => ∃ v', e = .returned (.tuple #[.agg #[.int .i64 most, v'], .bool true]) ∧ Hid (Played X B w0 t most n its.length w v' w') := by
  obtain ⟨hP, hD, hb, hs⟩ := begin3 h (.int .i64 most) v (.int .i64 3) (.int .i64 k) (.int .i64 x)
  have hm := h.live.fits
  have hL6 : its.length ≤ 1000000 := Nat.le_trans hL (by omega)
  have hrW := items_below hrow hb
  have C1 := hide (atNoLN k hD.live hno)
  have CF := hide (refFind most k _ hrW hL6)
  have HO := hide (out_at hrel hno)
  have HD := hide hD
  have HRW := hide hrW
  have HREL0 := hide hrel
  have HX := hide h.xlt
  have HB := hide h.room
  have HV := hide hv
  have HKW : Hid (KX X w (((w.alloc (.cells #[.int .i64 most, v] 27)).alloc (.cells #[.int .i64 3, .int .i64 k, .int .i64 x] 33)).alloc (.cells #[.int .i64 0, .slice none 0 0] 27))) := h.kx hb
  obtain ⟨a, c, rfl⟩ := item_shape hrow
  have HM := hide hm
  generalize hLL : its.length = L at *
  have HLL := hide hLL
  have HL6 : Hid (its.length ≤ 1000000) := by rw [hLL]; exact hL6
  clear h hv hrow hrel hL hL6 hb hs hm hLL hD hrW hno
  go_enter Try.func10, Try.ntmps10
  go_upto_region 1 with fail
  generalize (((w.alloc (.cells #[.int .i64 most, .slice a L c] 27)).alloc (.cells #[.int .i64 3, .int .i64 k, .int .i64 x] 33)).alloc (.cells #[.int .i64 0, .slice none 0 0] 27)) = W at *
  have HP := hide hP
  obtain ⟨m0, m1, o0, o1, o2, r0, r1, rf⟩ := hP
  go_wp2_with fail
  refine (unhide C1).mono ?_
  rintro e u0 ⟨rfl, rfl⟩
  clear C1
  go_wp2_with fail
  refine (unhide CF).mono ?_
  rintro e u1 ⟨r, rfl, h1⟩
  obtain ⟨f1, b1⟩ := unhide h1
  obtain rfl : r = -1 := by
    rcases f1 with ⟨e, -⟩ | ⟨i, e1, -, e3, -⟩
    · exact e
    · exact absurd e3 (unhide HO i e1)
  have D1 := (unhide HD).step b1
  have K1 := (unhide HD).kx b1
  have R1 := row_kx (unhide HRW) (unhide HV) K1
  have hP1 := (unhide HP).kept K1
  have HK1 := (unhide HKW).trans (kx_sub K1)
  have HR := hide (stored2 hP1.r0 hP1.r1 (.int .i64 most) (.slice a L c))
  have HE : Hid (∀ z, Played X B w0 t most n L w (.slice a L c) (((u1.drewN z).setCell ⟨w.heap.size + 2, 0, none⟩ (.int .i64 most)).setCell ⟨w.heap.size + 2, 1, none⟩ (.slice a L c))) := fun z =>
    end3 (unhide HX) (unhide HB) ((D1.draw z).same (unhide HV)) HK1 (unhide HREL0) (by omega) (by rw [unhide HLL]; omega) (by rw [unhide HLL]; exact R1) (fun b hb e => by have := unhide HX b (unhide HV b hb); omega)
  obtain ⟨m0, m1, o0, o1, o2, r0, r1, rf⟩ := hP1
  clear CF h1 f1 b1 D1 K1 R1 HK1 HD HRW HP HKW HO HX HB
  go_upto_region 13 with fail
  go_region
  go_wp2_with fail
  (try simp only [Exit.inBlock, Exit.then])
  refine bodyPost_ret (res2 rfl _ _ (w.heap.size + 2) _ _ rfl (unhide HR).1 (unhide HR).2) rfl ?_
  exact ⟨_, rfl, unhide HE 1⟩

set_option maxHeartbeats 2000000 in
set_option maxRecDepth 100000 in
theorem playAtYes [Inhabited EntI] {X : Nat → Prop} {B : Nat} {w0 w : World} {t n : Nat} {most : Int} {ps : List (Int × Bool)} {v : Value} {its : List (Int × Int)} (i : Nat) (x : Int) (h : Duo X B w0 t most ps n w) (hv : ∀ b, v.ownBlock = some b → X b) (hrow : w.ownsRow 0 47 2 v its.length (enc .i64 its)) (hrel : Rel ps its) (hL : its.length ≤ 100000) (_ : n ≤ 500000000)
    {a0 : Int} (hp : ps[i]? = some (a0, true)) :
    Calls Try.prog 10 #[.pointer (some ⟨t, 0, none⟩), .agg #[.int .i64 most, v], .agg #[.int .i64 3, .int .i64 ((i : Int) + 1), .int .i64 x]] w fun e w' => ∃ v', e = .returned (.tuple #[.agg #[.int .i64 most, v'], .bool true]) ∧ Hid (Played X B w0 t most n its.length w v' w') := by
  obtain ⟨hP, hD, hb, hs⟩ := begin3 h (.int .i64 most) v (.int .i64 3) (.int .i64 ((i : Int) + 1)) (.int .i64 x)
  have hm := h.live.fits
  have hL6 : its.length ≤ 1000000 := Nat.le_trans hL (by omega)
  have hrW := items_below hrow hb
  obtain ⟨j, j1, j2, j3, j4⟩ := rel_index hrel hp
  have C1 := hide (atYesLN i hD.live hp)
  have CF := hide (refFind most ((i : Int) + 1) _ hrW hL6)
  have HJ : Hid (∀ r, AtIs its ((i : Int) + 1) r → r = (j : Int)) := fun r hr => at_one hr j1 j2 j4
  have HJ3 := hide j3
  have hjz : (j : Int) < (its.length : Int) := by omega
  have HJ1 := hide j1
  have HD := hide hD
  have HRW := hide hrW
  have HREL0 := hide hrel
  have HX := hide h.xlt
  have HB := hide h.room
  have HV := hide hv
  have HKW : Hid (KX X w (((w.alloc (.cells #[.int .i64 most, v] 27)).alloc (.cells #[.int .i64 3, .int .i64 ((i : Int) + 1), .int .i64 x] 33)).alloc (.cells #[.int .i64 0, .slice none 0 0] 27))) := h.kx hb
  obtain ⟨a, c, rfl⟩ := item_shape hrow
  have HM := hide hm
  generalize hLL : its.length = L at *
  have HLL := hide hLL
  have HL6 : Hid (its.length ≤ 1000000) := by rw [hLL]; exact hL6
  clear h hv hrow hrel hL hL6 hb hs hm hLL hD hrW hp j1 j2 j3 j4
  go_enter Try.func10, Try.ntmps10
  go_upto_region 1 with fail
  generalize (((w.alloc (.cells #[.int .i64 most, .slice a L c] 27)).alloc (.cells #[.int .i64 3, .int .i64 ((i : Int) + 1), .int .i64 x] 33)).alloc (.cells #[.int .i64 0, .slice none 0 0] 27)) = W at *
  have HP := hide hP
  obtain ⟨m0, m1, o0, o1, o2, r0, r1, rf⟩ := hP
  go_wp2_with fail
  refine (unhide C1).mono ?_
  rintro e u0 ⟨rfl, rfl⟩
  clear C1
  go_wp2_with fail
  refine (unhide CF).mono ?_
  rintro e u1 ⟨r, rfl, h1⟩
  obtain ⟨f1, b1⟩ := unhide h1
  obtain rfl := unhide HJ r f1
  have D1 := (unhide HD).step b1
  have K1 := (unhide HD).kx b1
  have R1 := row_kx (unhide HRW) (unhide HV) K1
  have hP1 := (unhide HP).kept K1
  have HK1 := (unhide HKW).trans (kx_sub K1)
  have HR := hide (stored2 hP1.r0 hP1.r1 (.int .i64 most) (.slice a L c))
  have HE : Hid (∀ z, Played X B w0 t most n L w (.slice a L c) (((u1.drewN z).setCell ⟨w.heap.size + 2, 0, none⟩ (.int .i64 most)).setCell ⟨w.heap.size + 2, 1, none⟩ (.slice a L c))) := fun z =>
    end3 (unhide HX) (unhide HB) ((D1.draw z).same (unhide HV)) HK1 (unhide HREL0) (by omega) (by rw [unhide HLL]; omega) (by rw [unhide HLL]; exact R1) (fun b hb e => by have := unhide HX b (unhide HV b hb); omega)
  obtain ⟨g, c', e⟩ := item_block R1 (by have := unhide HJ1; omega)
  simp only [Value.slice.injEq, true_and] at e
  obtain ⟨rfl, rfl⟩ := e
  have x0 := (owns_cells R1 j (unhide HJ1)).2
  rw [unhide HJ3] at x0
  have hgn : g ≠ w.heap.size + 2 := fun e => by have := unhide HX g (unhide HV g rfl); omega
  have gn1 : ¬ g = w.heap.size + 2 := hgn
  have gn2 : ¬ g = w.heap.size + 1 + 1 := hgn
  have gn3 : ¬ w.heap.size + 2 = g := fun e => hgn e.symm
  have gn4 : ¬ w.heap.size + 1 + 1 = g := fun e => hgn e.symm
  have hj0 : (0 : Int) ≤ (j : Int) := by omega
  obtain ⟨m0, m1, o0, o1, o2, r0, r1, rf⟩ := hP1
  clear CF h1 f1 b1 D1 K1 R1 HK1 HD HRW HP HKW HJ HX HB hgn
  go_upto_region 13 with fail
  go_region
  go_wp2_with fail
  (try simp only [Exit.inBlock, Exit.then])
  refine bodyPost_ret (res2 rfl _ _ (w.heap.size + 2) _ _ rfl (unhide HR).1 (unhide HR).2) rfl ?_
  exact ⟨_, rfl, unhide HE 1⟩

set_option maxHeartbeats 2000000 in
set_option maxRecDepth 100000 in
theorem playFree [Inhabited EntI] {X : Nat → Prop} {B : Nat} {w0 w : World} {t n : Nat} {most : Int} {ps : List (Int × Bool)} {v : Value} {its : List (Int × Int)} (k x : Int) (h : Duo X B w0 t most ps n w) (hv : ∀ b, v.ownBlock = some b → X b) (hrow : w.ownsRow 0 47 2 v its.length (enc .i64 its)) (hrel : Rel ps its) (hL : its.length ≤ 100000) (_ : n ≤ 500000000) :
    Calls Try.prog 10 #[.pointer (some ⟨t, 0, none⟩), .agg #[.int .i64 most, v], .agg #[.int .i64 6, .int .i64 k, .int .i64 x]] w fun e w' => ∃ v', e = .returned (.tuple #[.agg #[.int .i64 most, v'], .bool true]) ∧ Hid (Played X B w0 t most n its.length w v' w') := by
  obtain ⟨hP, hD, hb, hs⟩ := begin3 h (.int .i64 most) v (.int .i64 6) (.int .i64 k) (.int .i64 x)
  have hm := h.live.fits
  have hL6 : its.length ≤ 1000000 := Nat.le_trans hL (by omega)
  have hrW := items_below hrow hb
  obtain ⟨q0, hq0⟩ := free_ex ps most
  have C1 : Hid (∀ u, Below w.heap.size w u → Calls Try.prog 16 #[.pointer (some ⟨t, 0, none⟩)] u fun e w' => e = .returned (.int .i64 q0) ∧ Below u.heap.size u w') := fun u hu => (freeLN (h.live.step hu)).mono fun _ _ ⟨r, he, hr, z, hz⟩ => ⟨by rw [he, free_one hq0 hr], by rw [hz]; exact below_drewN (Below.refl _ _) z⟩
  have C2 : Hid (∀ u, Below w.heap.size w u → Calls Try.prog 31 #[.agg #[.int .i64 most, v]] u fun e w' => e = .returned (.int .i64 q0) ∧ Below u.heap.size u w') := fun u hu => (refFree most u (items_below hrow hu) hL6 ⟨by omega, hm.2⟩).mono fun _ _ ⟨r, he, hh⟩ => ⟨by rw [he, rel_free hrel hm.1 hq0 hh.out.1], hh.out.2⟩
  have HBW0 := hide hb
  have HROW := hide hrow
  have HDW := hide h
  have HD := hide hD
  have HRW := hide hrW
  have HREL0 := hide hrel
  have HX := hide h.xlt
  have HB := hide h.room
  have HV := hide hv
  have HKW : Hid (KX X w (((w.alloc (.cells #[.int .i64 most, v] 27)).alloc (.cells #[.int .i64 6, .int .i64 k, .int .i64 x] 33)).alloc (.cells #[.int .i64 0, .slice none 0 0] 27))) := h.kx hb
  obtain ⟨a, c, rfl⟩ := item_shape hrow
  have HM := hide hm
  generalize hLL : its.length = L at *
  have HLL := hide hLL
  have HL6 : Hid (its.length ≤ 1000000) := by rw [hLL]; exact hL6
  clear h hv hrow hrel hL hL6 hb hs hm hLL hD hrW hq0
  go_enter Try.func10, Try.ntmps10
  go_upto_region 1 with fail
  generalize (((w.alloc (.cells #[.int .i64 most, .slice a L c] 27)).alloc (.cells #[.int .i64 6, .int .i64 k, .int .i64 x] 33)).alloc (.cells #[.int .i64 0, .slice none 0 0] 27)) = W at *
  have HP := hide hP
  obtain ⟨m0, m1, o0, o1, o2, r0, r1, rf⟩ := hP
  have HBW : Hid (Below w.heap.size w W) := unhide HBW0
  have DW := (unhide HD)
  have HRow : Hid (∀ u, Below w.heap.size w u → u.ownsRow 0 47 2 (.slice a L c) L (enc .i64 its)) := fun u hu => items_below (unhide HROW) hu
  have CA : Hid (∀ u, (u.cell? ⟨w.heap.size, 0, none⟩ = some (.int .i64 most) ∧ u.cell? ⟨w.heap.size, 1, none⟩ = some (.slice a L c) ∧ Hid (Below w.heap.size w u)) → (u.cell? ⟨w.heap.size + 2, 0, none⟩ = some (.int .i64 0) ∧ u.cell? ⟨w.heap.size + 2, 1, none⟩ = some (.slice none 0 0) ∧ ∀ o, u.frozen? ⟨w.heap.size + 2, o, none⟩ = false) → Calls Try.prog 16 #[.pointer (some ⟨t, 0, none⟩)] u fun e w' => e = .returned (.int .i64 q0) ∧ (w'.cell? ⟨w.heap.size, 0, none⟩ = some (.int .i64 most) ∧ w'.cell? ⟨w.heap.size, 1, none⟩ = some (.slice a L c) ∧ Hid (Below w.heap.size w w')) ∧ (w'.cell? ⟨w.heap.size + 2, 0, none⟩ = some (.int .i64 0) ∧ w'.cell? ⟨w.heap.size + 2, 1, none⟩ = some (.slice none 0 0) ∧ ∀ o, w'.frozen? ⟨w.heap.size + 2, o, none⟩ = false)) := fun u hS hR => by
    refine (unhide C1 u (unhide hS.2.2)).mono ?_
    rintro e w' ⟨he, b⟩
    have l1 := World.block_lt_of_cell? _ _ hS.1
    have l3 := World.block_lt_of_cell? _ _ hR.1
    exact ⟨he, ⟨(b.cell l1).trans hS.1, (b.cell (p := ⟨w.heap.size, 1, none⟩) l1).trans hS.2.1, (unhide hS.2.2).trans (b.mono (unhide hS.2.2).size)⟩, (b.cell l3).trans hR.1, (b.cell (p := ⟨w.heap.size + 2, 1, none⟩) l3).trans hR.2.1, fun o => (b.frozen (p := ⟨w.heap.size + 2, o, none⟩) l3).trans (hR.2.2 o)⟩
  have CB : Hid (∀ u, (u.cell? ⟨w.heap.size, 0, none⟩ = some (.int .i64 most) ∧ u.cell? ⟨w.heap.size, 1, none⟩ = some (.slice a L c) ∧ Hid (Below w.heap.size w u)) → (u.cell? ⟨w.heap.size + 2, 0, none⟩ = some (.int .i64 0) ∧ u.cell? ⟨w.heap.size + 2, 1, none⟩ = some (.slice none 0 0) ∧ ∀ o, u.frozen? ⟨w.heap.size + 2, o, none⟩ = false) → Calls Try.prog 31 #[.agg #[.int .i64 most, .slice a L c]] u fun e w' => e = .returned (.int .i64 q0) ∧ (w'.cell? ⟨w.heap.size, 0, none⟩ = some (.int .i64 most) ∧ w'.cell? ⟨w.heap.size, 1, none⟩ = some (.slice a L c) ∧ Hid (Below w.heap.size w w')) ∧ (w'.cell? ⟨w.heap.size + 2, 0, none⟩ = some (.int .i64 0) ∧ w'.cell? ⟨w.heap.size + 2, 1, none⟩ = some (.slice none 0 0) ∧ ∀ o, w'.frozen? ⟨w.heap.size + 2, o, none⟩ = false)) := fun u hS hR => by
    refine (unhide C2 u (unhide hS.2.2)).mono ?_
    rintro e w' ⟨he, b⟩
    have l1 := World.block_lt_of_cell? _ _ hS.1
    have l3 := World.block_lt_of_cell? _ _ hR.1
    exact ⟨he, ⟨(b.cell l1).trans hS.1, (b.cell (p := ⟨w.heap.size, 1, none⟩) l1).trans hS.2.1, (unhide hS.2.2).trans (b.mono (unhide hS.2.2).size)⟩, (b.cell l3).trans hR.1, (b.cell (p := ⟨w.heap.size + 2, 1, none⟩) l3).trans hR.2.1, fun o => (b.frozen (p := ⟨w.heap.size + 2, o, none⟩) l3).trans (hR.2.2 o)⟩
  have HE : Hid (∀ u, Below w.heap.size w u → Played X B w0 t most n L w (.slice a L c) ((u.setCell ⟨w.heap.size + 2, 0, none⟩ (.int .i64 most)).setCell ⟨w.heap.size + 2, 1, none⟩ (.slice a L c))) := fun u hu => by
    have hne : ∀ b, X b → b ≠ w.heap.size + 2 := fun b hb => by have := unhide HX b hb; omega
    have hu2 := below2 hu (by omega : w.heap.size ≤ w.heap.size + 2) (.int .i64 most) (.slice a L c)
    exact ⟨ps, n, its, unhide HREL0, by omega, by rw [unhide HLL]; omega, by rw [unhide HLL]; exact items_below (unhide HROW) hu2, ((unhide HDW).step hu2).sub (fun b hb => hb.elim id (fun e => unhide HV b e)), fun b hb => hu2.block b (unhide HX b hb)⟩
  have hB2 : Hid (Below w.heap.size w W.drew) := below_drewN (unhide HBW) 1
  clear C1 C2 HBW HRow DW HD HRW HP HKW HX HB HREL0 HROW HDW HBW0
  have HSS : Hid (∀ (u : World) (p q : Value), (u.cell? ⟨w.heap.size, 0, none⟩ = some (.int .i64 most) ∧ u.cell? ⟨w.heap.size, 1, none⟩ = some (.slice a L c) ∧ Hid (Below w.heap.size w u)) → (((u.setCell ⟨w.heap.size + 2, 0, none⟩ p).setCell ⟨w.heap.size + 2, 1, none⟩ q).cell? ⟨w.heap.size, 0, none⟩ = some (.int .i64 most) ∧ ((u.setCell ⟨w.heap.size + 2, 0, none⟩ p).setCell ⟨w.heap.size + 2, 1, none⟩ q).cell? ⟨w.heap.size, 1, none⟩ = some (.slice a L c) ∧ Hid (Below w.heap.size w ((u.setCell ⟨w.heap.size + 2, 0, none⟩ p).setCell ⟨w.heap.size + 2, 1, none⟩ q)))) := fun u p q hS => ⟨(World.cell?_setCell_other _ _ _ _ (by simp)).trans ((World.cell?_setCell_other _ _ _ _ (by simp)).trans hS.1), (World.cell?_setCell_other _ _ _ _ (by simp)).trans ((World.cell?_setCell_other _ _ _ _ (by simp)).trans hS.2.1), below2 (unhide hS.2.2) (by omega : w.heap.size ≤ w.heap.size + 2) p q⟩
  have sn1 : ¬ w.heap.size = w.heap.size + 2 := by omega
  have sn2 : ¬ w.heap.size = w.heap.size + 1 + 1 := by omega
  have sn3 : ¬ w.heap.size + 2 = w.heap.size := by omega
  have sn4 : ¬ w.heap.size + 1 + 1 = w.heap.size := by omega
  go_upto_region 22 with fail
  go_region_held3 (fun u => u.cell? ⟨w.heap.size, 0, none⟩ = some (.int .i64 most) ∧ u.cell? ⟨w.heap.size, 1, none⟩ = some (.slice a L c) ∧ Hid (Below w.heap.size w u)) (first | exact ⟨dd0, dd1, dd2⟩ | (exact ⟨m0, m1, hB2⟩) | (exact unhide HSS _ _ _ ⟨dd0, dd1, dd2⟩) | (go_keep; done) | ((try dsimp only); (repeat' apply And.intro) <;> first | go_keep | assumption | exact below2 (unhide (by assumption)) (by omega : w.heap.size ≤ w.heap.size + 2) _ _ | (refine (World.cell?_setCell_other _ _ _ _ (by simp)).trans ((World.cell?_setCell_other _ _ _ _ (by simp)).trans ?_); assumption))) (first | (go_at_call 16; refine (unhide CA _ (by assumption) ⟨by exact r0, by exact r1, by exact rf⟩).mono ?_; rintro e w' ⟨rfl, ⟨dd0, dd1, dd2⟩, ⟨r0, r1, rf⟩⟩) | (go_at_call 31; refine (unhide CB _ (by assumption) ⟨by exact r0, by exact r1, by exact rf⟩).mono ?_; rintro e w' ⟨rfl, ⟨dd0, dd1, dd2⟩, ⟨r0, r1, rf⟩⟩))
  all_goals
    go_wp2_with fail
    have HR := hide (stored2 r0 r1 (.int .i64 most) (.slice a L c))
    (try simp only [Exit.inBlock, Exit.then])
    refine bodyPost_ret (res2 rfl _ _ (w.heap.size + 2) _ _ rfl (unhide HR).1 (unhide HR).2) rfl ?_
    exact ⟨_, rfl, unhide HE _ (unhide dd2)⟩

set_option maxHeartbeats 2000000 in
set_option maxRecDepth 100000 in
theorem playNext [Inhabited EntI] {X : Nat → Prop} {B : Nat} {w0 w : World} {t n : Nat} {most : Int} {ps : List (Int × Bool)} {v : Value} {its : List (Int × Int)} (k x : Int) (h : Duo X B w0 t most ps n w) (hv : ∀ b, v.ownBlock = some b → X b) (hrow : w.ownsRow 0 47 2 v its.length (enc .i64 its)) (hrel : Rel ps its) (hL : its.length ≤ 100000) (_ : n ≤ 500000000)
    (kd : Int) (h1 : (kd == 1) = false) (h2 : (kd == 2) = false) (h3 : (kd == 3) = false) (h4 : (kd == 4) = false) (h5 : (kd == 5) = false) (h6 : (kd == 6) = false) :
    Calls Try.prog 10 #[.pointer (some ⟨t, 0, none⟩), .agg #[.int .i64 most, v], .agg #[.int .i64 kd, .int .i64 k, .int .i64 x]] w fun e w' => ∃ v', e = .returned (.tuple #[.agg #[.int .i64 most, v'], .bool true]) ∧ Hid (Played X B w0 t most n its.length w v' w') := by
  obtain ⟨hP, hD, hb, hs⟩ := begin3 h (.int .i64 most) v (.int .i64 kd) (.int .i64 k) (.int .i64 x)
  have hm := h.live.fits
  have hL6 : its.length ≤ 1000000 := Nat.le_trans hL (by omega)
  have hrW := items_below hrow hb
  obtain ⟨q0, hq0⟩ := next_ex ps k
  have C1 : Hid (∀ u, Below w.heap.size w u → Calls Try.prog 36 #[.pointer (some ⟨t, 0, none⟩), .int .i64 k] u fun e w' => e = .returned (.int .i64 q0) ∧ Below u.heap.size u w') := fun u hu => (nextLN k (h.live.step hu)).mono fun _ _ ⟨r, he, hr, hz⟩ => ⟨by rw [he, next_one hq0 hr], by rw [hz]; exact Below.refl _ _⟩
  have C2 : Hid (∀ u, Below w.heap.size w u → Calls Try.prog 37 #[.agg #[.int .i64 most, v], .int .i64 k] u fun e w' => e = .returned (.int .i64 q0) ∧ Below u.heap.size u w') := fun u hu => (refNext most k u (items_below hrow hu) hL6 (rel_pos hrel)).mono fun _ _ ⟨r, he, hh⟩ => ⟨by rw [he, rel_next hrel hq0 hh.out.1], hh.out.2⟩
  have HBW0 := hide hb
  have HROW := hide hrow
  have HDW := hide h
  have HD := hide hD
  have HRW := hide hrW
  have HREL0 := hide hrel
  have HX := hide h.xlt
  have HB := hide h.room
  have HV := hide hv
  have HKW : Hid (KX X w (((w.alloc (.cells #[.int .i64 most, v] 27)).alloc (.cells #[.int .i64 kd, .int .i64 k, .int .i64 x] 33)).alloc (.cells #[.int .i64 0, .slice none 0 0] 27))) := h.kx hb
  obtain ⟨a, c, rfl⟩ := item_shape hrow
  have HM := hide hm
  generalize hLL : its.length = L at *
  have HLL := hide hLL
  have HL6 : Hid (its.length ≤ 1000000) := by rw [hLL]; exact hL6
  clear h hv hrow hrel hL hL6 hb hs hm hLL hD hrW hq0
  go_enter Try.func10, Try.ntmps10
  go_upto_region 1 with fail
  generalize (((w.alloc (.cells #[.int .i64 most, .slice a L c] 27)).alloc (.cells #[.int .i64 kd, .int .i64 k, .int .i64 x] 33)).alloc (.cells #[.int .i64 0, .slice none 0 0] 27)) = W at *
  have HP := hide hP
  obtain ⟨m0, m1, o0, o1, o2, r0, r1, rf⟩ := hP
  have HBW : Hid (Below w.heap.size w W) := unhide HBW0
  have DW := (unhide HD)
  have HRow : Hid (∀ u, Below w.heap.size w u → u.ownsRow 0 47 2 (.slice a L c) L (enc .i64 its)) := fun u hu => items_below (unhide HROW) hu
  have CA : Hid (∀ u, (u.cell? ⟨w.heap.size, 0, none⟩ = some (.int .i64 most) ∧ u.cell? ⟨w.heap.size, 1, none⟩ = some (.slice a L c) ∧ u.cell? ⟨w.heap.size + 1, 1, none⟩ = some (.int .i64 k) ∧ Hid (Below w.heap.size w u)) → (u.cell? ⟨w.heap.size + 2, 0, none⟩ = some (.int .i64 0) ∧ u.cell? ⟨w.heap.size + 2, 1, none⟩ = some (.slice none 0 0) ∧ ∀ o, u.frozen? ⟨w.heap.size + 2, o, none⟩ = false) → Calls Try.prog 36 #[.pointer (some ⟨t, 0, none⟩), .int .i64 k] u fun e w' => e = .returned (.int .i64 q0) ∧ (w'.cell? ⟨w.heap.size, 0, none⟩ = some (.int .i64 most) ∧ w'.cell? ⟨w.heap.size, 1, none⟩ = some (.slice a L c) ∧ w'.cell? ⟨w.heap.size + 1, 1, none⟩ = some (.int .i64 k) ∧ Hid (Below w.heap.size w w')) ∧ (w'.cell? ⟨w.heap.size + 2, 0, none⟩ = some (.int .i64 0) ∧ w'.cell? ⟨w.heap.size + 2, 1, none⟩ = some (.slice none 0 0) ∧ ∀ o, w'.frozen? ⟨w.heap.size + 2, o, none⟩ = false)) := fun u hS hR => by
    refine (unhide C1 u (unhide hS.2.2.2)).mono ?_
    rintro e w' ⟨he, b⟩
    have l1 := World.block_lt_of_cell? _ _ hS.1
    have l2 := World.block_lt_of_cell? _ _ hS.2.2.1
    have l3 := World.block_lt_of_cell? _ _ hR.1
    exact ⟨he, ⟨(b.cell l1).trans hS.1, (b.cell (p := ⟨w.heap.size, 1, none⟩) l1).trans hS.2.1, (b.cell l2).trans hS.2.2.1, (unhide hS.2.2.2).trans (b.mono (unhide hS.2.2.2).size)⟩, (b.cell l3).trans hR.1, (b.cell (p := ⟨w.heap.size + 2, 1, none⟩) l3).trans hR.2.1, fun o => (b.frozen (p := ⟨w.heap.size + 2, o, none⟩) l3).trans (hR.2.2 o)⟩
  have CB : Hid (∀ u, (u.cell? ⟨w.heap.size, 0, none⟩ = some (.int .i64 most) ∧ u.cell? ⟨w.heap.size, 1, none⟩ = some (.slice a L c) ∧ u.cell? ⟨w.heap.size + 1, 1, none⟩ = some (.int .i64 k) ∧ Hid (Below w.heap.size w u)) → (u.cell? ⟨w.heap.size + 2, 0, none⟩ = some (.int .i64 0) ∧ u.cell? ⟨w.heap.size + 2, 1, none⟩ = some (.slice none 0 0) ∧ ∀ o, u.frozen? ⟨w.heap.size + 2, o, none⟩ = false) → Calls Try.prog 37 #[.agg #[.int .i64 most, .slice a L c], .int .i64 k] u fun e w' => e = .returned (.int .i64 q0) ∧ (w'.cell? ⟨w.heap.size, 0, none⟩ = some (.int .i64 most) ∧ w'.cell? ⟨w.heap.size, 1, none⟩ = some (.slice a L c) ∧ w'.cell? ⟨w.heap.size + 1, 1, none⟩ = some (.int .i64 k) ∧ Hid (Below w.heap.size w w')) ∧ (w'.cell? ⟨w.heap.size + 2, 0, none⟩ = some (.int .i64 0) ∧ w'.cell? ⟨w.heap.size + 2, 1, none⟩ = some (.slice none 0 0) ∧ ∀ o, w'.frozen? ⟨w.heap.size + 2, o, none⟩ = false)) := fun u hS hR => by
    refine (unhide C2 u (unhide hS.2.2.2)).mono ?_
    rintro e w' ⟨he, b⟩
    have l1 := World.block_lt_of_cell? _ _ hS.1
    have l2 := World.block_lt_of_cell? _ _ hS.2.2.1
    have l3 := World.block_lt_of_cell? _ _ hR.1
    exact ⟨he, ⟨(b.cell l1).trans hS.1, (b.cell (p := ⟨w.heap.size, 1, none⟩) l1).trans hS.2.1, (b.cell l2).trans hS.2.2.1, (unhide hS.2.2.2).trans (b.mono (unhide hS.2.2.2).size)⟩, (b.cell l3).trans hR.1, (b.cell (p := ⟨w.heap.size + 2, 1, none⟩) l3).trans hR.2.1, fun o => (b.frozen (p := ⟨w.heap.size + 2, o, none⟩) l3).trans (hR.2.2 o)⟩
  have HE : Hid (∀ u, Below w.heap.size w u → Played X B w0 t most n L w (.slice a L c) ((u.setCell ⟨w.heap.size + 2, 0, none⟩ (.int .i64 most)).setCell ⟨w.heap.size + 2, 1, none⟩ (.slice a L c))) := fun u hu => by
    have hne : ∀ b, X b → b ≠ w.heap.size + 2 := fun b hb => by have := unhide HX b hb; omega
    have hu2 := below2 hu (by omega : w.heap.size ≤ w.heap.size + 2) (.int .i64 most) (.slice a L c)
    exact ⟨ps, n, its, unhide HREL0, by omega, by rw [unhide HLL]; omega, by rw [unhide HLL]; exact items_below (unhide HROW) hu2, ((unhide HDW).step hu2).sub (fun b hb => hb.elim id (fun e => unhide HV b e)), fun b hb => hu2.block b (unhide HX b hb)⟩
  have hB2 : Hid (Below w.heap.size w W.drew) := below_drewN (unhide HBW) 1
  clear C1 C2 HBW HRow DW HD HRW HP HKW HX HB HREL0 HROW HDW HBW0
  have HSS : Hid (∀ (u : World) (p q : Value), (u.cell? ⟨w.heap.size, 0, none⟩ = some (.int .i64 most) ∧ u.cell? ⟨w.heap.size, 1, none⟩ = some (.slice a L c) ∧ u.cell? ⟨w.heap.size + 1, 1, none⟩ = some (.int .i64 k) ∧ Hid (Below w.heap.size w u)) → (((u.setCell ⟨w.heap.size + 2, 0, none⟩ p).setCell ⟨w.heap.size + 2, 1, none⟩ q).cell? ⟨w.heap.size, 0, none⟩ = some (.int .i64 most) ∧ ((u.setCell ⟨w.heap.size + 2, 0, none⟩ p).setCell ⟨w.heap.size + 2, 1, none⟩ q).cell? ⟨w.heap.size, 1, none⟩ = some (.slice a L c) ∧ ((u.setCell ⟨w.heap.size + 2, 0, none⟩ p).setCell ⟨w.heap.size + 2, 1, none⟩ q).cell? ⟨w.heap.size + 1, 1, none⟩ = some (.int .i64 k) ∧ Hid (Below w.heap.size w ((u.setCell ⟨w.heap.size + 2, 0, none⟩ p).setCell ⟨w.heap.size + 2, 1, none⟩ q)))) := fun u p q hS => ⟨(World.cell?_setCell_other _ _ _ _ (by simp)).trans ((World.cell?_setCell_other _ _ _ _ (by simp)).trans hS.1), (World.cell?_setCell_other _ _ _ _ (by simp)).trans ((World.cell?_setCell_other _ _ _ _ (by simp)).trans hS.2.1), (World.cell?_setCell_other _ _ _ _ (by simp)).trans ((World.cell?_setCell_other _ _ _ _ (by simp)).trans hS.2.2.1), below2 (unhide hS.2.2.2) (by omega : w.heap.size ≤ w.heap.size + 2) p q⟩
  have sn1 : ¬ w.heap.size = w.heap.size + 2 := by omega
  have sn2 : ¬ w.heap.size = w.heap.size + 1 + 1 := by omega
  have sn3 : ¬ w.heap.size + 2 = w.heap.size := by omega
  have sn4 : ¬ w.heap.size + 1 + 1 = w.heap.size := by omega
  go_upto_region 23 with fail
  go_region_held3 (fun u => u.cell? ⟨w.heap.size, 0, none⟩ = some (.int .i64 most) ∧ u.cell? ⟨w.heap.size, 1, none⟩ = some (.slice a L c) ∧ u.cell? ⟨w.heap.size + 1, 1, none⟩ = some (.int .i64 k) ∧ Hid (Below w.heap.size w u)) (first | exact ⟨dd0, dd1, dd2, dd3⟩ | (exact ⟨m0, m1, o1, hB2⟩) | (exact unhide HSS _ _ _ ⟨dd0, dd1, dd2, dd3⟩) | (go_keep; done) | ((try dsimp only); (repeat' apply And.intro) <;> first | go_keep | assumption | exact below2 (unhide (by assumption)) (by omega : w.heap.size ≤ w.heap.size + 2) _ _ | (refine (World.cell?_setCell_other _ _ _ _ (by simp)).trans ((World.cell?_setCell_other _ _ _ _ (by simp)).trans ?_); assumption))) (first | (go_at_call 36; refine (unhide CA _ (by assumption) ⟨by exact r0, by exact r1, by exact rf⟩).mono ?_; rintro e w' ⟨rfl, ⟨dd0, dd1, dd2, dd3⟩, ⟨r0, r1, rf⟩⟩) | (go_at_call 37; refine (unhide CB _ (by assumption) ⟨by exact r0, by exact r1, by exact rf⟩).mono ?_; rintro e w' ⟨rfl, ⟨dd0, dd1, dd2, dd3⟩, ⟨r0, r1, rf⟩⟩))
  all_goals
    go_wp2_with fail
    have HR := hide (stored2 r0 r1 (.int .i64 most) (.slice a L c))
    (try simp only [Exit.inBlock, Exit.then])
    refine bodyPost_ret (res2 rfl _ _ (w.heap.size + 2) _ _ rfl (unhide HR).1 (unhide HR).2) rfl ?_
    exact ⟨_, rfl, unhide HE _ (unhide dd3)⟩

theorem stands_or (ps : List (Int × Bool)) (k : Int) : (∃ (i : Nat) (a : Int), k = (i : Int) + 1 ∧ ps[i]? = some (a, true)) ∨ ∀ (i : Nat) a, k = (i : Int) + 1 → ps[i]? ≠ some (a, true) := by
  by_cases h : ∃ (i : Nat) (a : Int), k = (i : Int) + 1 ∧ ps[i]? = some (a, true)
  · exact .inl h
  · exact .inr fun i a e g => h ⟨i, a, e, g⟩

theorem play_any [Inhabited EntI] {X : Nat → Prop} {B : Nat} {w0 w : World} {t n : Nat} {most : Int} {ps : List (Int × Bool)} {v : Value} {its : List (Int × Int)} (kd k x : Int) (h : Duo X B w0 t most ps n w) (hv : ∀ b, v.ownBlock = some b → X b) (hrow : w.ownsRow 0 47 2 v its.length (enc .i64 its)) (hrel : Rel ps its) (hL : its.length ≤ 100000) (hn : n ≤ 500000000) :
    Calls Try.prog 10 #[.pointer (some ⟨t, 0, none⟩), .agg #[.int .i64 most, v], .agg #[.int .i64 kd, .int .i64 k, .int .i64 x]] w fun e w' => ∃ v', e = .returned (.tuple #[.agg #[.int .i64 most, v'], .bool true]) ∧ Hid (Played X B w0 t most n its.length w v' w') := by
  have hm := h.live.fits
  by_cases h1 : kd = 1
  · subst h1
    obtain ⟨r, hr⟩ := free_ex ps most
    have hr0 := hr
    rcases hr with ⟨i, a, rfl, h2, h3⟩ | ⟨hf, ⟨hq, rfl⟩ | ⟨hq, rfl⟩⟩
    · exact playPut k x i h hv hrow hrel hL hn hr0 (by have := lt_of_at h2; omega) (fun b e => by rw [h2] at e; cases e)
    · exact playPutFull k x h hv hrow hrel hL hn hr0 (fun r hr => free_one hr0 hr)
    · exact playPut k x ps.length h hv hrow hrel hL hn hr0 (by omega) (fun b e => by have := lt_of_at e; omega)
  by_cases h2 : kd = 2
  · subst h2
    by_cases hk : k < 1 ∨ most < k
    · exact playPutAtNo k x h hv hrow hrel hL hn (hk.imp id .inl) (hk.imp id .inl)
    · rcases stands_or ps k with ⟨i, a, rfl, g⟩ | hno
      · exact playPutAtNo _ x h hv hrow hrel hL hn (.inr (.inr ⟨i, a, rfl, g⟩)) (.inr (.inr (rel_in hrel g)))
      · obtain ⟨i, rfl⟩ : ∃ i : Nat, k = (i : Int) + 1 := ⟨(k - 1).toNat, by omega⟩
        exact playPutAtYes i x h hv hrow hrel hL hn (by omega) (fun a => hno i a rfl)
  by_cases h3 : kd = 3
  · subst h3
    rcases stands_or ps k with ⟨i, a, rfl, g⟩ | hno
    · exact playAtYes i x h hv hrow hrel hL hn g
    · exact playAtNo k x h hv hrow hrel hL hn hno
  by_cases h4 : kd = 4
  · subst h4
    rcases stands_or ps k with ⟨i, a, rfl, g⟩ | hno
    · exact playSetYes i x h hv hrow hrel hL hn g
    · exact playSetNo k x h hv hrow hrel hL hn hno
  by_cases h5 : kd = 5
  · subst h5
    rcases stands_or ps k with ⟨i, a, rfl, g⟩ | hno
    · exact playDropYes i x h hv hrow hrel hL hn g
    · exact playDropNo k x h hv hrow hrel hL hn hno
  by_cases h6 : kd = 6
  · subst h6
    exact playFree k x h hv hrow hrel hL hn
  · exact playNext k x h hv hrow hrel hL hn kd (by simpa using h1) (by simpa using h2) (by simpa using h3) (by simpa using h4) (by simpa using h5) (by simpa using h6)

end Go.Proofs.Ytkdlhnfagghppaa
