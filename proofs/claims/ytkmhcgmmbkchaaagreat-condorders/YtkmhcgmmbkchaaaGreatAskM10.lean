/- What asks asks, as mathematics. -/
import Derived.Test.YtkmhcgmmbkchaaaGreatEd10
import Derived.Test.YtkmhcgmmbkchaaaGreatIn9
namespace Go.Proofs.YtkmhcgmmbkchaaaGreat

section
open Go.RowKit Go.Maps T9
section
variable {L : Nat → Nat} {w : World} {c p m ma ml me : Nat} {lk : Int} {V : List Int} {es : List EdV} {N : Nat}
theorem KRaw.lookArc {S : List (Part Int)} {Af : Int → Option (Int × Int)} {g1 g2 : Int → Int → Option Int} (h : KRaw L w c p m ma ml me lk S Af g1 g2 N) {e : Int} (he : okN e) {u v : Int} {t : Bool} (hu : (Af e).getD (0, 0) = (u, v)) (ht : (Af e).isSome = t) : (Instr.lookup 58 (.map (some ma)) (.int .i64 e) true).run Tryz.prog w = .ok (.tuple #[.agg #[.int .i64 u, .int .i64 v], .bool t]) w := by
  obtain ⟨n, a1, -⟩ := h.arcs
  have := a1.look2 kitA (t := 58) (e := 54) Tryz.underlying58 zeroA he
  rw [hu, ht] at this
  exact this
set_option maxHeartbeats 1000000 in
set_option maxRecDepth 100000 in
theorem kAddATwice (h : KSt L w c p m ma ml me lk V es N) {e u v : Int} (he : okN e) (hs : (arcF es e).isSome = true) : Calls Tryz.prog 15 #[.pointer (some ⟨c, 0, none⟩), .int .i64 e, .int .i64 u, .int .i64 v] w fun r w' => r = .returned (.int .i64 2) ∧ Hid (KGo L w c p m ma ml me lk V es N w') := by
  have HB : Hid (∀ o, KGo L w c p m ma ml me lk V es N (w.alloc o)) := fun o => h.go (below_new w o)
  obtain ⟨S, h1, h2⟩ := h
  obtain ⟨a, ha⟩ := Option.isSome_iff_exists.1 hs
  obtain ⟨-, c2, -, -, -, -⟩ := cellsC h1.box
  have k1 := h1.lookArc he (u := a.1) (v := a.2) (t := true) (by rw [ha]; rfl) hs
  obtain ⟨a1, a2⟩ := a
  clear h1 h2 ha hs he
  go_enter Tryz.func15, Tryz.ntmps15
  go_wp2_with fail
  go_ret
  exact ⟨rfl, unhide HB _⟩
set_option maxHeartbeats 1000000 in
set_option maxRecDepth 100000 in
theorem kAddANo (h : KSt L w c p m ma ml me lk V es N) {e u v : Int} (he : okN e) (hu : okN u) (hv : okN v) (hs : arcF es e = none) (hno : ¬ (u ∈ V ∧ v ∈ V)) : Calls Tryz.prog 15 #[.pointer (some ⟨c, 0, none⟩), .int .i64 e, .int .i64 u, .int .i64 v] w fun r w' => r = .returned (.int .i64 5) ∧ Hid (KGo L w c p m ma ml me lk V es N w') := by
  have HB : Hid (KGo L w c p m ma ml me lk V es N (w.alloc (oArc 0 0))) := h.go (below_new w _)
  obtain ⟨S, h1, h2⟩ := h
  obtain ⟨-, c2, -, -, -, -⟩ := cellsC h1.box
  have k1 := h1.lookArc he (u := 0) (v := 0) (t := false) (by rw [hs]; rfl) (by rw [hs]; rfl)
  have hz := h1.below (below_new w (oArc 0 0))
  have C1 := hide (khasS hz.box hz.at_ hu)
  have C2 := hide (khasS hz.box hz.at_ hv)
  have HS := hide h2
  clear h1 h2 hs he hu hv hz
  go_enter Tryz.func15, Tryz.ntmps15
  go_upto_region 4 with fail
  change Code.wp _ _ _ _ (w.alloc (oArc 0 0))
  generalize w.alloc (oArc 0 0) = wz at *
  clear k1 c2
  by_cases hu : u ∈ V
  · have hv : v ∉ V := fun hv => hno ⟨hu, hv⟩
    go_wp2_with fail
    refine (unhide C1).mono ?_
    rintro r w' ⟨t, rfl, HQ⟩
    obtain ⟨hq, rfl⟩ := unhide HQ
    obtain rfl : t = true := hq.2 ((unhide HS).self.2 hu)
    clear C1 HQ hq
    go_wp2_with fail
    refine (unhide C2).mono ?_
    rintro r w' ⟨t, rfl, HQ⟩
    obtain ⟨hq, rfl⟩ := unhide HQ
    obtain rfl : t = false := by
      cases t with
      | false => rfl
      | true => exact absurd ((unhide HS).self.1 (hq.1 rfl)) hv
    clear C2 HQ hq hu hv hno
    go_wp2_with fail
    go_ret
    exact ⟨rfl, unhide HB⟩
  · go_wp2_with fail
    refine (unhide C1).mono ?_
    rintro r w' ⟨t, rfl, HQ⟩
    obtain ⟨hq, rfl⟩ := unhide HQ
    obtain rfl : t = false := by
      cases t with
      | false => rfl
      | true => exact absurd ((unhide HS).self.1 (hq.1 rfl)) hu
    clear C1 C2 HQ hq hu hno
    go_wp2_with fail
    go_ret
    exact ⟨rfl, unhide HB⟩
theorem gok_snoc (hG : GOk V es N) {e u v : Int} (he : okN e) (hs : arcF es e = none) (hu : u ∈ V) (hv : v ∈ V) : GOk V (es ++ [(e, u, v, 0)]) (N + 1) := by
  refine ⟨hG.rise, hG.okV, fun x hx => ?_, fun a ha => ?_, ?_, Nat.le_succ_of_le hG.lenV, by rw [List.length_append]; have := hG.lenE; simp; omega⟩
  · rcases List.mem_append.1 hx with hx | hx
    · exact hG.okE x hx
    · rw [List.mem_singleton.1 hx]; exact he
  · rcases (ae_snoc (e := e) (u := u) (v := v) (b := 0) a.1 a.2).1 ha with h | ⟨h1, h2⟩
    · exact hG.ae h
    · rw [h1, h2]; exact ⟨hu, hv⟩
  · rw [List.map_append, List.nodup_append]
    refine ⟨hG.uni, by simp, fun a ha b hb => ?_⟩
    obtain ⟨x, hx, rfl⟩ := List.mem_map.1 ha
    rw [show b = e by simpa using hb]
    exact arcF_none.1 hs x hx
/-- What AddArc leaves. -/
def AddAAns (L : Nat → Nat) (w : World) (c p m ma ml me : Nat) (V : List Int) (es : List EdV) (N : Nat) (e u v : Int) (w' : World) : Prop :=
  ∃ k : Nat, KGo L w c p m ma ml me (k : Int) V (es ++ [(e, u, v, 0)]) (N + 3) w' ∧ (Mut (AE es) u v → k = 0) ∧ k ≤ 2 * V.length
set_option maxHeartbeats 4000000 in
set_option maxRecDepth 100000 in
theorem kAddAYes (h : KSt L w c p m ma ml me lk V es N) (hG : GOk V es N) (hN : N ≤ 1000) {e u v : Int} (he : okN e) (hs : arcF es e = none) (hu : u ∈ V) (hv : v ∈ V) : Calls Tryz.prog 15 #[.pointer (some ⟨c, 0, none⟩), .int .i64 e, .int .i64 u, .int .i64 v] w fun r w' => r = .returned (.int .i64 0) ∧ Hid (AddAAns L w c p m ma ml me V es N e u v w') := by
  obtain ⟨S, h1, h2⟩ := h
  have hou := hG.okV u hu
  have hov := hG.okV v hv
  obtain ⟨-, c2, -, -, -, -⟩ := cellsC h1.box
  have k1 := h1.lookArc he (u := 0) (v := 0) (t := false) (by rw [hs]; rfl) (by rw [hs]; rfl)
  have hz := h1.below (below_new w (oArc 0 0))
  have ch0 : Ch L w L (w.alloc (oArc 0 0)) := Ch.below (below_new w _)
  have C1 := hide (khasS hz.box hz.at_ hou)
  have C2 := hide (khasS hz.box hz.at_ hov)
  obtain ⟨-, d2, -, -, -, -⟩ := cellsC hz.box
  obtain ⟨w1, r1, K1, ch1⟩ := hz.putArc he (by omega) u v
  obtain ⟨-, -, x3, -, -, -⟩ := cellsC K1.box
  have hg1 : gOut es u e = none := by
    cases hh : gOut es u e with
    | none => rfl
    | some z => rw [gOut_some, hs] at hh; cases hh
  have hg2 : gIn es v e = none := by
    cases hh : gIn es v e with
    | none => rfl
    | some z => rw [gIn_some, hs] at hh; cases hh
  have C3 := hide (K1.putLv (v := v) hou he hg1 (by omega))
  have HCH : Hid (Ch L w L w1) := ch0.trans ch1
  have HS : Hid (SP S u u ∧ SP S v v) := ⟨h2.self.2 hu, h2.self.2 hv⟩
  have HG : Hid (SameC S V es ∧ GOk V es N ∧ N ≤ 1000 ∧ okN e ∧ okN u ∧ okN v ∧ arcF es e = none ∧ u ∈ V ∧ v ∈ V ∧ gIn es v e = none) := ⟨h2, hG, hN, he, hou, hov, hs, hu, hv, hg2⟩
  clear h1 h2 hG hN he hs hu hv hou hov hz ch0 K1 ch1 hg1 hg2
  go_enter Tryz.func15, Tryz.ntmps15
  go_upto_region 4 with fail
  change Code.wp _ _ _ _ (w.alloc (oArc 0 0))
  generalize w.alloc (oArc 0 0) = wz at *
  clear k1 c2
  go_wp2_with fail
  refine (unhide C1).mono ?_
  rintro r w' ⟨t, rfl, HQ⟩
  obtain ⟨hq, rfl⟩ := unhide HQ
  obtain rfl : t = true := hq.2 (unhide HS).1
  clear C1 HQ hq
  go_wp2_with fail
  refine (unhide C2).mono ?_
  rintro r w' ⟨t, rfl, HQ⟩
  obtain ⟨hq, rfl⟩ := unhide HQ
  obtain rfl : t = true := hq.2 (unhide HS).2
  clear C2 HQ hq HS
  go_wp2_with fail
  refine (unhide C3).mono ?_
  rintro r w2 ⟨rfl, HQ⟩
  clear C3 x3 r1 d2
  obtain ⟨L2, K2, ch2⟩ := unhide HQ
  obtain ⟨g1, g2, g3, g4, g5, g6, g7, g8, g9, g10⟩ := unhide HG
  obtain ⟨-, -, -, x4, -, -⟩ := cellsC K2.box
  have C4 := hide (K2.putEn (u := u) g6 g4 g10 (by omega))
  have HCH2 : Hid (Ch L w L2 w2) := (unhide HCH).trans ch2
  clear HQ HCH K2 ch2 g1 g2 g3 g4 g5 g6 g7 g8 g9 g10
  go_wp2_with fail
  refine (unhide C4).mono ?_
  rintro r w3 ⟨rfl, HQ⟩
  clear C4 x4
  obtain ⟨L3, K3, ch3⟩ := unhide HQ
  obtain ⟨g1, g2, g3, g4, g5, g6, g7, g8, g9, g10⟩ := unhide HG
  rw [← arcF_snoc (b := 0) g7, gOut_snoc (b := 0) g7, gIn_snoc (b := 0) g7] at K3
  obtain ⟨-, -, -, -, x5, x6⟩ := cellsC K3.box
  obtain ⟨K4, ch4⟩ := K3.count 0
  obtain ⟨w4, hw4⟩ : ∃ w4, w4 = w3.setCell ⟨c, 4, none⟩ (.int .i64 0) := ⟨_, rfl⟩
  rw [← hw4] at K4 ch4
  have C5 := hide (kSameS K4.box K4.at_ g5 g6)
  have HK4 : Hid (KRaw L3 w4 c p m ma ml me 0 S (arcF (es ++ [(e, u, v, 0)])) (gOut (es ++ [(e, u, v, 0)])) (gIn (es ++ [(e, u, v, 0)])) (N + 3)) := K4
  have HCH4 : Hid (Ch L w L3 w4) := ((unhide HCH2).trans ch3).trans ch4
  clear HQ HCH2 K3 K4 ch3 ch4 g1 g2 g3 g4 g5 g6 g7 g8 g9 g10
  subst hw4
  go_wp2_with fail
  refine (unhide C5).mono ?_
  rintro r w' ⟨t, rfl, HQ⟩
  obtain ⟨hq, rfl⟩ := unhide HQ
  clear C5 HQ x5 x6
  generalize w3.setCell ⟨c, 4, none⟩ (.int .i64 0) = w4 at *
  cases t with
  | true =>
    have HR : Hid (AddAAns L w c p m ma ml me V es N e u v w4) := ⟨0, ⟨L3, ⟨S, unhide HK4, sameC_plus_same (unhide HG).1 (hq.1 rfl)⟩, unhide HCH4⟩, fun _ => rfl, Nat.zero_le _⟩
    clear HK4 HCH4 HG hq
    go_wp2_with fail
    go_ret
    exact ⟨rfl, unhide HR⟩
  | false =>
    obtain ⟨g1, g2, g3, g4, g5, g6, g7, g8, g9, g10⟩ := unhide HG
    have hG' := gok_snoc g2 g4 g7 g8 g9
    have K4 := unhide HK4
    obtain ⟨f1, n1, cn1, l1, -, -⟩ := K4.lv
    obtain ⟨f2, n2, cn2, e1, -, -⟩ := K4.en
    have hV1 : ∀ p e' q, okN p → okN e' → gOut (es ++ [(e, u, v, 0)]) p e' = some q → q ∈ V ∧ okN q := fun p e' q _ _ hh => by
      obtain ⟨x, hx, -, e2⟩ := arcF_some (gOut_some.1 hh)
      injection e2 with _ e4
      rw [e4]; exact ⟨(hG'.end1 hx).2, g2.okV _ (hG'.end1 hx).2⟩
    have hV2 : ∀ p e' q, okN p → okN e' → gIn (es ++ [(e, u, v, 0)]) p e' = some q → q ∈ V ∧ okN q := fun p e' q _ _ hh => by
      obtain ⟨x, hx, -, e2⟩ := arcF_some (gIn_some.1 hh)
      injection e2 with e4 _
      rw [e4]; exact ⟨(hG'.end1 hx).1, g2.okV _ (hG'.end1 hx).1⟩
    have ht := K4.tot_
    have hl := g2.lenV
    have C6 := hide (kjoinRingsS l1 e1 K4.box (by rw [K4.lc]; omega) (by rw [K4.lc]; omega) K4.at_ K4.cfoot g2.nodup (fun k hk => g1.self.2 hk) (by omega) (by omega) g8 g9 g5 g6 hV1 hV2 (Int.le_refl 0) (by omega))
    have HF : Hid (∀ W, RAns w4 c p m ma ml me 0 (gOut (es ++ [(e, u, v, 0)])) (gIn (es ++ [(e, u, v, 0)])) V S u v W → AddAAns L w c p m ma ml me V es N e u v W) := fun W hR => by
      obtain ⟨S', k, q1, q2, q3⟩ := sameC_plus g1 hG' hR
      obtain ⟨L', k1, k2⟩ := K4.aft (M := N + 3) q1.box q1.at_ q1.tur q1.foot (by rw [q1.tot_]; exact ht) (Nat.le_refl _)
      rw [Int.zero_add] at k1
      refine ⟨k, ⟨L', ⟨S', k1, q2⟩, (unhide HCH4).trans k2⟩, fun hm => ?_, q3⟩
      exact absurd (hq.2 ((g1 u v).2 ⟨g8, g9, hm⟩)) (by simp)
    clear HK4 HCH4 HG g1 g2 g3 g4 g5 g6 g7 g8 g9 g10 hG' K4 l1 e1 hV1 hV2 ht hl hq
    go_wp2_with fail
    refine (unhide C6).mono ?_
    rintro r w5 ⟨rfl, HQ⟩
    clear C6
    have HR := hide (unhide HF w5 (unhide HQ))
    clear HF HQ
    go_wp2_with fail
    go_ret
    exact ⟨rfl, unhide HR⟩
end
end

section
open Go.RowKit Go.Maps T9
section
variable {L : Nat → Nat} {w : World} {c p m ma ml me : Nat} {lk : Int} {V : List Int} {es : List EdV} {N : Nat}
set_option maxHeartbeats 1000000 in
set_option maxRecDepth 100000 in
theorem kDropANo (h : KSt L w c p m ma ml me lk V es N) {e : Int} (he : okN e) (hs : arcF es e = none) : Calls Tryz.prog 16 #[.pointer (some ⟨c, 0, none⟩), .int .i64 e] w fun r w' => r = .returned (.int .i64 6) ∧ Hid (KGo L w c p m ma ml me lk V es N w') := by
  have HB : Hid (∀ o, KGo L w c p m ma ml me lk V es N (w.alloc o)) := fun o => h.go (below_new w o)
  obtain ⟨S, h1, h2⟩ := h
  obtain ⟨-, c2, -, -, -, -⟩ := cellsC h1.box
  have k1 := h1.lookArc he (u := 0) (v := 0) (t := false) (by rw [hs]; rfl) (by rw [hs]; rfl)
  clear h1 h2 hs he
  go_enter Tryz.func16, Tryz.ntmps16
  go_wp2_with fail
  go_ret
  exact ⟨rfl, unhide HB _⟩
theorem gok_cut (hG : GOk V es N) {i : Nat} {x : EdV} (hi : es[i]? = some x) : GOk V (es.take i ++ es.drop (i + 1)) N := by
  have hl : (es.take i ++ es.drop (i + 1)).length ≤ es.length := by rw [List.length_append, List.length_take, List.length_drop]; omega
  refine ⟨hG.rise, hG.okV, fun y hy => hG.okE y ((cut_mem hG.uni hi y).1 hy).1, fun a ha => ?_, cut_uni hG.uni i, hG.lenV, Nat.le_trans hl hG.lenE⟩
  exact hG.ae ((ae_cut hG.uni hi a.1 a.2).2 (.inl ha))
/-- What DropArc leaves. -/
def DropAAns (L : Nat → Nat) (w : World) (c p m ma ml me : Nat) (V : List Int) (es : List EdV) (N : Nat) (i : Nat) (u v : Int) (w' : World) : Prop :=
  ∃ k : Nat, KGo L w c p m ma ml me (k : Int) V (es.take i ++ es.drop (i + 1)) N w' ∧ (u = v ∨ ¬ Mut (AE es) u v → k = 0) ∧ ∀ zs : List Int, (∀ z, z ∈ V → Mut (AE es) u z → z ∈ zs) → k ≤ 2 * zs.length
theorem drop_end {L' : Nat → Nat} {wz w4 W : World} {S : List (Part Int)} {i : Nat} {e u v b : Int} {z : Part Int} (h2 : SameC S V es) (hG : GOk V es N) (hi : es[i]? = some (e, u, v, b)) (K4 : KRaw L' w4 c p m ma ml me 0 S (arcF (es.take i ++ es.drop (i + 1))) (gOut (es.take i ++ es.drop (i + 1))) (gIn (es.take i ++ es.drop (i + 1))) N) (hch : Ch L wz L' w4) (hz : z ∈ S) (huz : u ∈ z.ks) (hs : SP S u v) (hne : u ≠ v)
    (hR : PaAns w4 c p m ma ml me 0 (gOut (es.take i ++ es.drop (i + 1))) S z.ks W) : DropAAns L wz c p m ma ml me V es N i u v W := by
  obtain ⟨S', q1, q2⟩ := hR
  have hF := K4.at_.fam
  obtain ⟨L5, k1, k2⟩ := K4.aft (M := N) q1.box q1.at_ q1.tur q1.foot (by rw [q1.tot_]; exact K4.tot_) (Nat.le_refl _)
  have hnd : z.ks.Nodup := (hF.rise z hz).imp (fun {a b} hh => by simp [ltN] at hh; omega)
  refine ⟨z.ks.length + z.ks.length, ⟨L5, ⟨S', ?_, sameC_anew h2 hG hi hF hz huz hs q2⟩, hch.trans k2⟩, fun h => ?_, fun zs hzs => ?_⟩
  · rw [Int.natCast_add, ← Int.zero_add ((z.ks.length : Int) + _), ← Int.add_assoc]; exact k1
  · rcases h with h | h
    · exact absurd h hne
    · exact absurd ((h2 u v).1 hs).2.2 h
  · have := len_in hnd (hs := zs) (fun y hy => by
      obtain ⟨s1, s2, s3⟩ := (h2 u y).1 ⟨z, hz, huz, hy⟩
      exact hzs y s2 s3)
    omega
set_option maxHeartbeats 4000000 in
set_option maxRecDepth 100000 in
theorem kDropAYes (h : KSt L w c p m ma ml me lk V es N) (hG : GOk V es N) (hN : N ≤ 1000) {i : Nat} {e u v b : Int} (hi : es[i]? = some (e, u, v, b)) : Calls Tryz.prog 16 #[.pointer (some ⟨c, 0, none⟩), .int .i64 e] w fun r w' => r = .returned (.int .i64 0) ∧ Hid (DropAAns L w c p m ma ml me V es N i u v w') := by
  obtain ⟨S, h1, h2⟩ := h
  have hx := List.mem_of_getElem? hi
  have he : okN e := hG.okE _ hx
  have hF : arcF es e = some (u, v) := arcF_mem hG.uni hx
  obtain ⟨-, c2, -, -, -, -⟩ := cellsC h1.box
  have k1 := h1.lookArc he (u := u) (v := v) (t := true) (by rw [hF]; rfl) (by rw [hF]; rfl)
  obtain ⟨Lz, hLz⟩ : ∃ Lz, Lz = lab L w.heap.size 0 := ⟨_, rfl⟩
  have hz := (h1.named 0).below (below_new w (oArc u v))
  have ch0 : Ch L w (lab L w.heap.size 0) (w.alloc (oArc u v)) := (Ch.named L w 0).trans (Ch.below (below_new w _))
  rw [← hLz] at hz ch0
  have hab : Lz w.heap.size = 0 := by rw [hLz]; exact if_neg (by omega)
  have hnew := heap_alloc_new w (oArc u v)
  obtain ⟨-, d2, -, -, -, -⟩ := cellsC hz.box
  obtain ⟨w1, r1, K1, ch1⟩ := hz.delArc he (by rw [hF]; rfl)
  have hsz : w.heap.size < (w.alloc (oArc u v)).heap.size := heap_lt hnew
  have HAB : Hid (∀ W, Ch Lz (w.alloc (oArc u v)) Lz W → W.cell? ⟨w.heap.size, 0, none⟩ = some (.int .i64 u) ∧ W.cell? ⟨w.heap.size, 1, none⟩ = some (.int .i64 v)) := fun W hc => by
    have := cellsArc ((hc.tur.block _ hsz (fun q => q hab)).trans hnew)
    exact ⟨this.1, this.2.1⟩
  have hg1 : (gOut es u e).isSome = true := by rw [gOut_some.2 hF]; rfl
  have hg2 : (gIn es v e).isSome = true := by rw [gIn_some.2 hF]; rfl
  have hou := hG.okV _ (hG.end1 hx).1
  have hov := hG.okV _ (hG.end1 hx).2
  have C3 : Hid (∀ q, Calls Tryz.prog 37 #[.map (some ml), .int .i64 u, .int .i64 e] (w1.drewN q) fun r w' => r = .returned (.tuple #[]) ∧ Hid (KRaw Lz w' c p m ma ml me lk S (putG (arcF es) e none) (putE (gOut es) u e none) (gIn es) N ∧ Ch Lz (w1.drewN q) Lz w')) := fun q => (K1.below (below_drewN (Below.refl _ _) q)).dropLv hou he hg1 (by omega)
  have HD : Hid (∀ W q, Ch Lz W Lz (W.drewN q)) := fun W q => Ch.below (below_drewN (Below.refl _ _) q)
  have HCH : Hid (Ch Lz (w.alloc (oArc u v)) Lz w1) := ch1
  have HCH0 : Hid (Ch L w Lz (w.alloc (oArc u v))) := ch0
  obtain ⟨-, -, x3, -, -, -⟩ := cellsC K1.box
  obtain ⟨y1, -⟩ := unhide HAB w1 ch1
  have HG : Hid (SameC S V es ∧ GOk V es N ∧ N ≤ 1000 ∧ okN e ∧ okN u ∧ okN v ∧ es[i]? = some (e, u, v, b) ∧ u ∈ V ∧ v ∈ V ∧ (gIn es v e).isSome = true) := ⟨h2, hG, hN, he, hou, hov, hi, (hG.end1 hx).1, (hG.end1 hx).2, hg2⟩
  have R1 := r1 0
  clear h1 h2 hG hN he hou hov hi hx hF hz ch0 K1 ch1 hg1 hg2 hLz hab hnew hsz r1
  go_enter Tryz.func16, Tryz.ntmps16
  go_upto_region 4 with fail
  change Code.wp _ _ _ _ (w.alloc (oArc u v))
  obtain ⟨ab, hab⟩ : ∃ ab, ab = w.heap.size := ⟨_, rfl⟩
  have HABE := hide hab
  rw [← hab] at HAB y1 ⊢
  clear hab
  generalize w.alloc (oArc u v) = wz at *
  clear k1 c2
  go_upto_region 5 with fail
  clear R1 d2
  refine wp_region_noPanic ?_
  refine regionL [] (fun y => y.cell? ⟨c, 2, none⟩ = some (.map (some ml)) ∧ y.cell? ⟨ab, 0, none⟩ = some (.int .i64 u)) (by kernel_rfl) ⟨x3, y1⟩ (fun hHeld => ?_)
  refine takeL (i := 0) (v := ?t2v0) (some 23) rfl rfl (by kernel_rfl) (by kernel_rfl) (by kernel_rfl) (by kernel_rfl) (by kernel_rfl) (fun _ _ _ h => h) (Or.inl ⟨by rfl, ?t2h0⟩) (by assumption) ?t2r0
  case t2h0 => (intro y hSu; (try dsimp only at hSu); go_simp; first | done | with_reducible rfl)
  (try simp only [Act.put, List.setIfInBounds_toArray, List.set_cons_zero, List.set_cons_succ])
  refine takeL (i := 1) (v := ?t2v1) (some 24) rfl rfl (by kernel_rfl) (by kernel_rfl) (by kernel_rfl) (by kernel_rfl) (by kernel_rfl) (fun _ _ _ h => h) (Or.inl ⟨by rfl, ?t2h1⟩) (by assumption) ?t2r1
  case t2h1 => (intro y hSu; (try dsimp only at hSu); go_simp; first | done | with_reducible rfl)
  (try simp only [Act.put, List.setIfInBounds_toArray, List.set_cons_zero, List.set_cons_succ])
  refine takeL (i := 2) (v := ?t2v2) (some 25) rfl rfl (by kernel_rfl) (by kernel_rfl) (by kernel_rfl) (by kernel_rfl) (by kernel_rfl) (fun _ _ _ h => h) (Or.inl ⟨by rfl, ?t2h2⟩) (by assumption) ?t2r2
  case t2h2 => (intro y hSu; (try dsimp only at hSu); go_simp; first | done | with_reducible rfl)
  (try simp only [Act.put, List.setIfInBounds_toArray, List.set_cons_zero, List.set_cons_succ])
  refine takeL (i := 3) (v := ?t2v3) (some 26) rfl rfl (by kernel_rfl) (by kernel_rfl) (by kernel_rfl) (by kernel_rfl) (by kernel_rfl) (fun _ _ _ h => h) (Or.inl ⟨by rfl, ?t2h3⟩) (by assumption) ?t2r3
  case t2h3 => (intro y hSu; (try dsimp only at hSu); go_simp; first | done | with_reducible rfl)
  (try simp only [Act.put, List.setIfInBounds_toArray, List.set_cons_zero, List.set_cons_succ])
  refine takeL (i := 4) (v := ?t2v4) (some 27) rfl rfl (by kernel_rfl) (by kernel_rfl) (by kernel_rfl) (by kernel_rfl) (by kernel_rfl) (fun _ _ _ h => h) (Or.inl ⟨by rfl, ?t2h4⟩) (by assumption) ?t2r4
  case t2h4 => (intro y hSu; (try dsimp only at hSu); go_simp; first | done | with_reducible rfl)
  (try simp only [Act.put, List.setIfInBounds_toArray, List.set_cons_zero, List.set_cons_succ])
  refine takeL (i := 5) (v := ?t2v5) (some 28) rfl rfl (by kernel_rfl) (by kernel_rfl) (by kernel_rfl) (by kernel_rfl) (by kernel_rfl) (fun _ _ _ h => h) (Or.inl ⟨by rfl, ?t2h5⟩) (by assumption) ?t2r5
  case t2h5 => (intro y hSu; (try dsimp only at hSu); go_simp; first | done | with_reducible rfl)
  (try simp only [Act.put, List.setIfInBounds_toArray, List.set_cons_zero, List.set_cons_succ])
  refine takeL (i := 6) (v := ?t2v6) (some 29) rfl rfl (by kernel_rfl) (by kernel_rfl) (by kernel_rfl) (by kernel_rfl) (by kernel_rfl) (fun _ _ _ h => h) (Or.inl ⟨by rfl, ?t2h6⟩) (by assumption) ?t2r6
  case t2h6 => (intro y hSu; (try dsimp only at hSu); go_simp; first | done | with_reducible rfl)
  (try simp only [Act.put, List.setIfInBounds_toArray, List.set_cons_zero, List.set_cons_succ])
  refine readyL (i := 7) (by kernel_rfl) rfl (fun K hK => ?_)
  go_simp
  refine (unhide C3 1).mono ?_
  rintro r w2 ⟨rfl, HQ⟩
  have HCH2 : Hid (Ch Lz wz Lz w2) := ((unhide HCH).trans (unhide HD _ 1)).trans (unhide HQ).2
  have HE : Hid (w2.cell? ⟨c, 2, none⟩ = some (.map (some ml)) ∧ w2.cell? ⟨ab, 0, none⟩ = some (.int .i64 u)) := ⟨(cellsC (unhide HQ).1.box).2.2.1, (unhide HAB w2 (unhide HCH2)).1⟩
  have x4 := (cellsC (unhide HQ).1.box).2.2.2.1
  have y2 := (unhide HAB w2 (unhide HCH2)).2
  have C4 : Hid (∀ q, Calls Tryz.prog 37 #[.map (some me), .int .i64 v, .int .i64 e] (w2.drewN q) fun r w' => r = .returned (.tuple #[]) ∧ Hid (KRaw Lz w' c p m ma ml me lk S (putG (arcF es) e none) (putE (gOut es) u e none) (putE (gIn es) v e none) N ∧ Ch Lz (w2.drewN q) Lz w')) := fun q => by
    obtain ⟨g1, g2, g3, g4, g5, g6, g7, g8, g9, g10⟩ := unhide HG
    exact ((unhide HQ).1.below (below_drewN (Below.refl _ _) q)).dropEn g6 g4 g10 (by omega)
  clear C3 x3 y1 HCH HQ
  (try dsimp only)
  refine hK.out _ _ (fun _ => (unhide HE)) ?_
  clear hK K
  (try simp only [Act.put, List.setIfInBounds_toArray, List.set_cons_zero, List.set_cons_succ])
  have hH4 := (unhide HE)
  refine doneL (by kernel_rfl) ?_ _
  refine NoPanic.normal ?_
  clear HE
  go_upto_region 6 with fail
  refine wp_region_noPanic ?_
  refine regionL [] (fun y => y.cell? ⟨c, 3, none⟩ = some (.map (some me)) ∧ y.cell? ⟨ab, 1, none⟩ = some (.int .i64 v)) (by kernel_rfl) ⟨x4, y2⟩ (fun hHeld => ?_)
  refine takeL (i := 0) (v := ?t7v0) (some 31) rfl rfl (by kernel_rfl) (by kernel_rfl) (by kernel_rfl) (by kernel_rfl) (by kernel_rfl) (fun _ _ _ h => h) (Or.inl ⟨by rfl, ?t7h0⟩) (by assumption) ?t7r0
  case t7h0 => (intro y hSu; (try dsimp only at hSu); go_simp; first | done | with_reducible rfl)
  (try simp only [Act.put, List.setIfInBounds_toArray, List.set_cons_zero, List.set_cons_succ])
  refine takeL (i := 1) (v := ?t7v1) (some 32) rfl rfl (by kernel_rfl) (by kernel_rfl) (by kernel_rfl) (by kernel_rfl) (by kernel_rfl) (fun _ _ _ h => h) (Or.inl ⟨by rfl, ?t7h1⟩) (by assumption) ?t7r1
  case t7h1 => (intro y hSu; (try dsimp only at hSu); go_simp; first | done | with_reducible rfl)
  (try simp only [Act.put, List.setIfInBounds_toArray, List.set_cons_zero, List.set_cons_succ])
  refine takeL (i := 2) (v := ?t7v2) (some 33) rfl rfl (by kernel_rfl) (by kernel_rfl) (by kernel_rfl) (by kernel_rfl) (by kernel_rfl) (fun _ _ _ h => h) (Or.inl ⟨by rfl, ?t7h2⟩) (by assumption) ?t7r2
  case t7h2 => (intro y hSu; (try dsimp only at hSu); go_simp; first | done | with_reducible rfl)
  (try simp only [Act.put, List.setIfInBounds_toArray, List.set_cons_zero, List.set_cons_succ])
  refine takeL (i := 3) (v := ?t7v3) (some 34) rfl rfl (by kernel_rfl) (by kernel_rfl) (by kernel_rfl) (by kernel_rfl) (by kernel_rfl) (fun _ _ _ h => h) (Or.inl ⟨by rfl, ?t7h3⟩) (by assumption) ?t7r3
  case t7h3 => (intro y hSu; (try dsimp only at hSu); go_simp; first | done | with_reducible rfl)
  (try simp only [Act.put, List.setIfInBounds_toArray, List.set_cons_zero, List.set_cons_succ])
  refine takeL (i := 4) (v := ?t7v4) (some 35) rfl rfl (by kernel_rfl) (by kernel_rfl) (by kernel_rfl) (by kernel_rfl) (by kernel_rfl) (fun _ _ _ h => h) (Or.inl ⟨by rfl, ?t7h4⟩) (by assumption) ?t7r4
  case t7h4 => (intro y hSu; (try dsimp only at hSu); go_simp; first | done | with_reducible rfl)
  (try simp only [Act.put, List.setIfInBounds_toArray, List.set_cons_zero, List.set_cons_succ])
  refine takeL (i := 5) (v := ?t7v5) (some 36) rfl rfl (by kernel_rfl) (by kernel_rfl) (by kernel_rfl) (by kernel_rfl) (by kernel_rfl) (fun _ _ _ h => h) (Or.inl ⟨by rfl, ?t7h5⟩) (by assumption) ?t7r5
  case t7h5 => (intro y hSu; (try dsimp only at hSu); go_simp; first | done | with_reducible rfl)
  (try simp only [Act.put, List.setIfInBounds_toArray, List.set_cons_zero, List.set_cons_succ])
  refine takeL (i := 6) (v := ?t7v6) (some 37) rfl rfl (by kernel_rfl) (by kernel_rfl) (by kernel_rfl) (by kernel_rfl) (by kernel_rfl) (fun _ _ _ h => h) (Or.inl ⟨by rfl, ?t7h6⟩) (by assumption) ?t7r6
  case t7h6 => (intro y hSu; (try dsimp only at hSu); go_simp; first | done | with_reducible rfl)
  (try simp only [Act.put, List.setIfInBounds_toArray, List.set_cons_zero, List.set_cons_succ])
  refine readyL (i := 7) (by kernel_rfl) rfl (fun K hK => ?_)
  go_simp
  refine (unhide C4 1).mono ?_
  rintro r w3 ⟨rfl, HQ⟩
  have HCH3 : Hid (Ch Lz wz Lz w3) := ((unhide HCH2).trans (unhide HD _ 1)).trans (unhide HQ).2
  have HE : Hid (w3.cell? ⟨c, 3, none⟩ = some (.map (some me)) ∧ w3.cell? ⟨ab, 1, none⟩ = some (.int .i64 v)) := ⟨(cellsC (unhide HQ).1.box).2.2.2.1, (unhide HAB w3 (unhide HCH3)).2⟩
  clear C4 x4 y2 HCH2
  (try dsimp only)
  refine hK.out _ _ (fun _ => (unhide HE)) ?_
  clear hK K
  (try simp only [Act.put, List.setIfInBounds_toArray, List.set_cons_zero, List.set_cons_succ])
  have hH9 := (unhide HE)
  refine doneL (by kernel_rfl) ?_ _
  refine NoPanic.normal ?_
  clear HE
  obtain ⟨K3, -⟩ := unhide HQ
  obtain ⟨g1, g2, g3, g4, g5, g6, g7, g8, g9, g10⟩ := unhide HG
  have ec : arcF (es.take i ++ es.drop (i + 1)) = putG (arcF es) e none := arcF_cut g2.uni g7
  have eo : putE (gOut es) u e none = gOut (es.take i ++ es.drop (i + 1)) := gOut_cut g2.uni g7
  have ei : putE (gIn es) v e none = gIn (es.take i ++ es.drop (i + 1)) := gIn_cut g2.uni g7
  rw [← ec, eo, ei] at K3
  obtain ⟨-, -, -, -, x5, x6⟩ := cellsC K3.box
  obtain ⟨K4, ch4⟩ := K3.count 0
  obtain ⟨w4, hw4⟩ : ∃ w4, w4 = w3.setCell ⟨c, 4, none⟩ (.int .i64 0) := ⟨_, rfl⟩
  rw [← hw4] at K4 ch4
  have HK4 : Hid (KRaw Lz w4 c p m ma ml me 0 S (arcF (es.take i ++ es.drop (i + 1))) (gOut (es.take i ++ es.drop (i + 1))) (gIn (es.take i ++ es.drop (i + 1))) N) := K4
  have HCH4 : Hid (Ch L w Lz w4) := (unhide HCH0).trans ((unhide HCH3).trans ch4)
  have C5 := hide (kSameS K4.box K4.at_ g5 g6)
  obtain ⟨y3, y4⟩ := unhide HAB w4 ((unhide HCH3).trans ch4)
  clear HQ K3 K4 ch4 g1 g2 g3 g4 g5 g6 g7 g8 g9 g10 ec eo ei HCH3 HCH0 HAB HD
  go_upto_region 8 with fail
  subst hw4
  clear x5 x6
  generalize w3.setCell ⟨c, 4, none⟩ (.int .i64 0) = w4 at *
  by_cases huv : u = v
  · have z1 : (u != v) = false := by simp [huv]
    have HR : Hid (DropAAns L w c p m ma ml me V es N i u v w4) := by
      obtain ⟨g1, g2, g3, g4, g5, g6, g7, g8, g9, g10⟩ := unhide HG
      exact ⟨0, ⟨Lz, ⟨S, unhide HK4, sameC_less g1 g2.uni g7 ⟨g8, g9⟩ (.inl huv)⟩, unhide HCH4⟩, fun _ => rfl, fun _ _ => Nat.zero_le _⟩
    clear HK4 HCH4 HG C5 huv
    go_wp2_with fail
    go_ret
    exact ⟨rfl, unhide HR⟩
  · have z1 : (u != v) = true := by simp [huv]
    have HUV := hide huv
    clear huv
    go_wp2_with fail
    refine (unhide C5).mono ?_
    rintro r w' ⟨t, rfl, HQ⟩
    obtain ⟨hq, rfl⟩ := unhide HQ
    clear C5 HQ
    cases t with
    | false =>
      have HR : Hid (DropAAns L w c p m ma ml me V es N i u v w') := by
        obtain ⟨g1, g2, g3, g4, g5, g6, g7, g8, g9, g10⟩ := unhide HG
        exact ⟨0, ⟨Lz, ⟨S, unhide HK4, sameC_less g1 g2.uni g7 ⟨g8, g9⟩ (.inr (fun h => by have := hq.2 h; cases this))⟩, unhide HCH4⟩, fun _ => rfl, fun _ _ => Nat.zero_le _⟩
      clear HK4 HCH4 HG hq
      go_wp2_with fail
      go_ret
      exact ⟨rfl, unhide HR⟩
    | true =>
      obtain ⟨g1, g2, g3, g4, g5, g6, g7, g8, g9, g10⟩ := unhide HG
      have K4 := unhide HK4
      have hs := hq.1 rfl
      obtain ⟨z, hz, huz, -⟩ := id hs
      obtain ⟨f1, n1, cn1, l1, -, l3⟩ := K4.lv
      have hG' := gok_cut g2 g7
      have hV1 : ∀ p e' q, okN p → okN e' → gOut (es.take i ++ es.drop (i + 1)) p e' = some q → okN q := fun p e' q _ _ hh => by
        obtain ⟨x, hx, -, e2⟩ := arcF_some (gOut_some.1 hh)
        injection e2 with _ e4
        rw [e4]; exact g2.okV _ (hG'.end1 hx).2
      have hnd : z.ks.Nodup := (K4.at_.fam.rise z hz).imp (fun {a b} hh => by simp [ltN] at hh; omega)
      have ht := K4.tot_
      have hsum := l3 _ hnd
      have C6 := hide (kpartAnewS l1 K4.box (by rw [K4.lc]; omega) K4.at_ K4.cfoot hz huz hV1 (Int.le_refl 0) (by omega) (by omega) (by omega))
      have HF : Hid (∀ W, PaAns w' c p m ma ml me 0 (gOut (es.take i ++ es.drop (i + 1))) S z.ks W → DropAAns L w c p m ma ml me V es N i u v W) := fun W hR => drop_end g1 g2 g7 K4 (unhide HCH4) hz huz hs (unhide HUV) hR
      clear HK4 HCH4 HG g1 g2 g3 g4 g5 g6 g7 g8 g9 g10 hG' K4 l1 l3 hV1 ht hq hs hz huz hnd hsum HUV
      go_wp2_with fail
      refine (unhide C6).mono ?_
      rintro r w5 ⟨rfl, HQ⟩
      clear C6
      have HR := hide (unhide HF w5 (unhide HQ))
      clear HF HQ
      go_wp2_with fail
      go_ret
      exact ⟨rfl, unhide HR⟩
end
end

section
open Go.RowKit Go.Maps T9
section
variable {V : List Int} {es : List EdV} {h : Nat → Nat} {S : List (Part Int)} {N : Nat}
theorem cv_rise (hs : V.Pairwise (· < ·)) {ps : List Nat} (hp : ps.Pairwise (· < ·)) (hl : ∀ p ∈ ps, p < V.length) : (cv V ps).Pairwise (· < ·) := by
  unfold cv
  rw [List.pairwise_map]
  refine List.Pairwise.imp_of_mem (fun {a b} ha hb hab => ?_) hp
  have h1 := hl a ha
  have h2 := hl b hb
  rw [List.getD_eq_getElem?_getD, List.getD_eq_getElem?_getD, List.getElem?_eq_getElem h1, List.getElem?_eq_getElem h2]
  exact List.pairwise_iff_getElem.1 hs a b h1 h2 hab
theorem comps_rise (hs : V.Pairwise (· < ·)) {cs : List Int} (hc : cs ∈ compsV V h V.length) : cs.Pairwise (· < ·) := by
  obtain ⟨i, hi⟩ := List.getElem?_of_mem hc
  obtain ⟨m, hm, rfl⟩ := comp_at9.1 hi
  exact cv_rise hs (List.Pairwise.sublist List.filter_sublist List.pairwise_lt_range) (fun p hp => (mem_partTo.1 hp).1)
theorem rise_ext {l l' : List Int} (h1 : l.Pairwise (· < ·)) (h2 : l'.Pairwise (· < ·)) (h : ∀ x, x ∈ l ↔ x ∈ l') : l = l' := by
  induction l generalizing l' with
  | nil => cases l' with
    | nil => rfl
    | cons b l' => exact absurd ((h b).2 List.mem_cons_self) (by simp)
  | cons a l ih =>
    cases l' with
    | nil => exact absurd ((h a).1 List.mem_cons_self) (by simp)
    | cons b l' =>
      obtain ⟨p1, p2⟩ := List.pairwise_cons.1 h1
      obtain ⟨q1, q2⟩ := List.pairwise_cons.1 h2
      have e : a = b := by
        rcases List.mem_cons.1 ((h a).1 List.mem_cons_self) with e | e
        · exact e
        · rcases List.mem_cons.1 ((h b).2 List.mem_cons_self) with e' | e'
          · exact e'.symm
          · have := q1 a e; have := p1 b e'; omega
      subst e
      congr 1
      refine ih p2 q2 (fun x => ?_)
      constructor
      · intro hx
        rcases List.mem_cons.1 ((h x).1 (List.mem_cons_of_mem _ hx)) with e | e
        · have := p1 x hx; omega
        · exact e
      · intro hx
        rcases List.mem_cons.1 ((h x).2 (List.mem_cons_of_mem _ hx)) with e | e
        · have := q1 x hx; omega
        · exact e
/-- The component of a vertex in the reference's list, against its part. -/
structure AskIn (V : List Int) (es : List EdV) (css : List (List Int)) (u : Int) (i : Nat) (cs : List Int) : Prop where
  at_ : css[i]? = some cs
  comp : compAt css u = (i : Int)
  mem : ∀ y, y ∈ cs ↔ y ∈ V ∧ Mut (AE es) u y
  rise : cs.Pairwise (· < ·)
theorem ask_in (hG : GOk V es N) (H : Heads (nextOf V (arcsE es)) V.length h) {u : Int} (hu : u ∈ V) : ∃ i cs, AskIn V es (compsV V h V.length) u i cs := by
  have hm := fun x y => comps_mut (x := x) (y := y) hG.rise hG.ends H
  obtain ⟨cs, hcs, hcu, -⟩ := (hm u u).2 ⟨hu, hu, Mut.refl _ _⟩
  obtain ⟨i, hi⟩ := List.getElem?_of_mem hcs
  refine ⟨i, cs, hi, compAt_some hi hcu (fun j l hj hl hul => comps_apart hG.rise hl hi hj hul hcu), fun y => ?_, comps_rise hG.rise hcs⟩
  constructor
  · intro hy
    obtain ⟨-, h2, h3⟩ := (hm u y).1 ⟨cs, hcs, hcu, hy⟩
    exact ⟨h2, h3⟩
  · rintro ⟨h2, h3⟩
    obtain ⟨ds, hds, d1, d2⟩ := (hm u y).2 ⟨hu, h2, h3⟩
    obtain ⟨j, hj⟩ := List.getElem?_of_mem hds
    rcases Nat.lt_trichotomy i j with q | q | q
    · exact absurd d1 (comps_apart hG.rise hi hj q hcu)
    · subst q; rw [Option.some.inj (hi.symm.trans hj)]; exact d2
    · exact absurd hcu (comps_apart hG.rise hj hi q d1)
theorem ask_out {u : Int} (hu : u ∉ V) : compAt (compsV V h V.length) u = -1 :=
  compAt_none (fun _ _ hj hul => hu (comps_in (List.mem_of_getElem? hj) hul))
/-- Both stand in one component just if the places are one. -/
theorem ask_same (hG : GOk V es N) (H : Heads (nextOf V (arcsE es)) V.length h) {u v : Int} {i : Nat} {cs : List Int} (hi : AskIn V es (compsV V h V.length) u i cs) : (i : Int) = compAt (compsV V h V.length) v ↔ v ∈ V ∧ Mut (AE es) u v := by
  rw [← hi.mem]
  by_cases hv : v ∈ V
  · obtain ⟨j, ds, hj⟩ := ask_in hG H hv
    rw [hj.comp]
    have hvd : v ∈ ds := (hj.mem v).2 ⟨hv, Mut.refl _ _⟩
    constructor
    · intro e
      obtain rfl : i = j := by omega
      rw [Option.some.inj (hi.at_.symm.trans hj.at_)]; exact hvd
    · intro hc
      rcases Nat.lt_trichotomy i j with q | q | q
      · exact absurd hvd (comps_apart hG.rise hi.at_ hj.at_ q hc)
      · rw [q]
      · exact absurd hc (comps_apart hG.rise hj.at_ hi.at_ q hvd)
  · rw [ask_out hv]
    exact ⟨fun e => by omega, fun hc => absurd ((hi.mem v).1 hc).1 hv⟩
theorem ask_members (h2 : SameC S V es) {u : Int} {i : Nat} {cs : List Int} {css : List (List Int)} (hi : AskIn V es css u i cs) (hF : Fam ltN okN S) {x : Part Int} (hx : x ∈ S) (hu : u ∈ x.ks) : x.ks = cs := by
  have hr : x.ks.Pairwise (· < ·) := (hF.rise x hx).imp (fun hh => by simpa [ltN] using hh)
  refine rise_ext hr hi.rise (fun y => ?_)
  rw [hi.mem]
  constructor
  · intro hy
    exact ((h2 u y).1 ⟨x, hx, hu, hy⟩).2
  · intro hy
    exact sp_in hF hx hu ((h2 u y).2 ⟨h2.self.1 ⟨x, hx, hu, hu⟩, hy.1, hy.2⟩)
theorem ask_head (h2 : SameC S V es) {u k : Int} {i : Nat} {cs : List Int} {css : List (List Int)} (hu : u ∈ V) (hi : AskIn V es css u i cs) (h3 : SP S u k) (h4 : ∀ y, SP S u y → k ≤ y) : ∃ l, cs = k :: l := by
  have hk := (hi.mem k).2 ((h2 u k).1 h3).2
  have hr := hi.rise
  cases e : cs with
  | nil => rw [e] at hk; cases hk
  | cons a l =>
    rw [e] at hk hr
    refine ⟨l, ?_⟩
    have ha : a ∈ cs := by rw [e]; exact List.mem_cons_self
    have h5 := h4 a ((h2 u a).2 ⟨hu, (hi.mem a).1 ha⟩)
    rcases List.mem_cons.1 hk with q | q
    · rw [q]
    · have := (List.pairwise_cons.1 hr).1 k q; omega
end
end

end Go.Proofs.YtkmhcgmmbkchaaaGreat
