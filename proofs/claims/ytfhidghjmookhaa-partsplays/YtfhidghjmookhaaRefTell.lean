/- The reference's Same and Members. -/
import Derived.Test.YtfhidghjmookhaaRefDrop
namespace Go.Proofs.Ytfhidghjmookhaa
open Go.RowKit Go.Maps

theorem row_ints {w : World} {B n : Nat} {v : Value} {ks : List Int} (h : w.ownsRow B 3 1 v n (ks.map (Value.int .i64))) : (∃ a c, v = .slice a n c) ∧ ∀ j, j < n → ∃ g c, v = .slice (some ⟨g, 0, none⟩) n c ∧ w.cell? ⟨g, j, none⟩ = some (.int .i64 (ks.getD j 0)) := by
  obtain ⟨h1, h2⟩ := row_form h
  refine ⟨h1, fun j hj => ?_⟩
  obtain ⟨g, c, u, he, -, hc, hl, -⟩ := h2 j hj
  refine ⟨g, c, he, ?_⟩
  rw [List.getElem?_map, Option.map_eq_some_iff] at hl
  obtain ⟨s, hs, rfl⟩ := hl
  rw [hc, List.getD, hs]
  rfl

set_option maxHeartbeats 1000000 in
set_option maxRecDepth 100000 in
theorem refSame {v1 v2 : Value} {ks : List Int} (w : World) {B1 B2 : Nat} (h1 : w.ownsRow B1 3 1 v1 ks.length (ks.map (Value.int .i64))) (h2 : w.ownsRow B2 3 1 v2 ks.length (ks.map (Value.int .i64))) (hn : ks.length ≤ 1000000) :
    Calls Try.prog 11 #[v1, v2] w fun e w' => e = .returned (.bool true) ∧ ∃ q, w' = w.drewN q := by
  obtain ⟨⟨a1, c1, e1⟩, R1⟩ := row_ints h1
  obtain ⟨⟨a2, c2, e2⟩, R2⟩ := row_ints h2
  subst e1 e2
  have HR : Hid (∀ j, j < ks.length → ∃ g1 g2 u, a1 = some ⟨g1, 0, none⟩ ∧ a2 = some ⟨g2, 0, none⟩ ∧ w.cell? ⟨g1, j, none⟩ = some (.int .i64 u) ∧ w.cell? ⟨g2, j, none⟩ = some (.int .i64 u)) := fun j hj => by
    obtain ⟨g1, d1, f1, k1⟩ := R1 j hj
    obtain ⟨g2, d2, f2, k2⟩ := R2 j hj
    simp at f1 f2
    exact ⟨g1, g2, _, f1.1, f2.1, k1, k2⟩
  generalize ks.length = L at *
  have HN := hide hn
  clear h1 h2 R1 R2 hn
  go_enter Try.func11, Try.ntmps11
  go_wp2_with fail
  go_loopw [13] (fun s13 wr => ∃ j : Nat, j ≤ L ∧ s13 = .int .i64 j ∧ Hid (∃ q, wr = w.drewN q)) (fun s13 _ => L - (intOf s13).toNat)
  case atStart => exact ⟨0, Nat.zero_le _, rfl, 0, rfl⟩
  case round =>
    obtain ⟨j, hj, rfl, HW⟩ := hrel
    rename World => wz
    by_cases hjl : j < L
    · have hjz : (j : Int) < (L : Int) := by omega
      obtain ⟨g1, g2, u, e1, e2, m1, m2⟩ := unhide HR j hjl
      subst e1 e2
      have m1' : wz.cell? ⟨g1, j, none⟩ = some (.int .i64 u) := by obtain ⟨q, rfl⟩ := unhide HW; exact m1
      have m2' : wz.cell? ⟨g2, j, none⟩ = some (.int .i64 u) := by obtain ⟨q, rfl⟩ := unhide HW; exact m2
      have HW2 : Hid (∀ n, ∃ q, wz.drewN n = w.drewN q) := fun n => by obtain ⟨q, rfl⟩ := unhide HW; exact ⟨q + n, by first | rfl | simp⟩
      have hjw : IntKind.i64.wrap ((j : Int) + 1) = ((j + 1 : Nat) : Int) := by have := unhide HN; rw [IntKind.wrap_i64]; omega
      clear m1 m2 HR
      go_upto_region 6 with fail
      go_quiet (fail)
      go_wp2_with fail
      go_roundw
      case rel => exact ⟨j + 1, by omega, by first | rfl | go_num, unhide HW2 _⟩
      case measure => simp [intOf]; omega
    · have hjz : ¬ (j : Int) < (L : Int) := by omega
      clear HR
      go_wp2_with fail
      go_ret
      exact ⟨rfl, unhide HW⟩

theorem info3 : (Try.prog.info? 3).map (fun i => (i.zero, i.size, i.bytes)) = some (some (.int .i64 0), 1, 8) := by kernel_rfl

/-- A number behind a list that lies from B on. -/
theorem snocInt {w2 : World} {B n : Nat} {v1 : Value} {xs : List Value} (h : w2.ownsRow B 3 1 v1 n xs) (hn : n ≤ 1000000) (hB : B ≤ w2.heap.size) (k : Int) :
    ∃ a' c' w4, (Builtin.append_ #[37, 37] 37 #[v1, .slice (some ⟨w2.heap.size, 0, none⟩) 1 1]).run Try.prog (w2.alloc (.cells #[.int .i64 k] 3)) = .ok (.slice a' (n + 1) c') w4 ∧
      w4.ownsRow B 3 1 (.slice a' (n + 1) c') (n + 1) (xs ++ [.int .i64 k]) ∧ Below B w2 w4 := by
  obtain ⟨i0, hi0, hz0, hzs, hzb⟩ := info_parts info3
  have hown1' : (w2.alloc (.cells #[.int .i64 k] 3)).ownsRow B 3 1 v1 n xs := h.alloc _
  obtain ⟨v2, w4, hr2, hown2, hgr2, -⟩ := run_append_own (P := Try.prog) (w2.alloc (.cells #[.int .i64 k] 3)) B 37 37 3 i0 _ 1 8 Try.underlying37 hi0 hz0 hzs hzb rfl (by omega) v1 n xs hown1' ⟨w2.heap.size, 0, none⟩ 1 1 [.int .i64 k] rfl
    (fun j u hj => by
      have h1 : j < 1 := by
        have := (List.getElem?_eq_some_iff.1 hj).1
        simpa using this
      obtain rfl : j = 0 := by omega
      rw [show (⟨w2.heap.size, 0, none⟩ : Addr).add 0 = ⟨w2.heap.size, 0, none⟩ by unfold Addr.add; split <;> simp_all, World.cell?_alloc_at _ _ _ _ (by simp)]
      simpa using hj) (by intro u hu; simp at hu; subst hu; rfl) (by unfold maxLen; omega) (by omega) (by simp; omega)
  obtain ⟨⟨a', c', rfl⟩, -⟩ := row_form hown2
  exact ⟨a', c', w4, hr2, hown2, ((Below.refl B w2).alloc hB _).grown hgr2 (by simp; omega) (fun j hj => (h.lt j hj).1)⟩

/-- The things with a mark. -/
def memb (its : List (Int × Int)) (m : Int) : List Int := (its.filter (fun x => x.2 == m)).map (·.1)

theorem take_next {its : List (Int × Int)} {n : Nat} (h : n < its.length) : its.take (n + 1) = its.take n ++ [(lo its n, hi its n)] := by
  rw [List.take_succ_eq_append_getElem h]
  congr 1
  simp [lo, hi, List.getD, h]
theorem memb_in {its : List (Int × Int)} {n : Nat} {m : Int} (h : n < its.length) (hm : hi its n = m) : memb (its.take (n + 1)) m = memb (its.take n) m ++ [lo its n] := by
  unfold memb
  rw [take_next h, List.filter_append, List.map_append]
  simp [hm]
theorem memb_out {its : List (Int × Int)} {n : Nat} {m : Int} (h : n < its.length) (hm : (hi its n == m) = false) : memb (its.take (n + 1)) m = memb (its.take n) m := by
  unfold memb
  rw [take_next h, List.filter_append, List.map_append]
  have : hi its n ≠ m := by simpa using hm
  simp [this]
theorem memb_le (its : List (Int × Int)) (m : Int) : (memb its m).length ≤ its.length := by
  unfold memb
  rw [List.length_map]
  exact List.length_filter_le _ _

set_option maxHeartbeats 1000000 in
set_option maxRecDepth 100000 in
theorem refMembersNo {v : Value} {its : List (Int × Int)} (nx k : Int) (w : World) (h : w.ownsRow 0 35 2 v its.length (enc .i64 its)) (hn : its.length ≤ 1000000) (ho : Out its k) :
    Calls Try.prog 13 #[.agg #[v, .int .i64 nx], .int .i64 k] w fun e w' => e = .returned (.slice none 0 0) ∧ Hid (Below w.heap.size w w') := by
  have hb : Below w.heap.size w (w.alloc (.cells #[v, .int .i64 nx] 28)) := (Below.refl _ _).alloc (Nat.le_refl _) _
  have CF := hide (refFind nx k _ (items_below h hb) hn)
  obtain ⟨b0, b1, bf⟩ := box2 w v (.int .i64 nx) 28
  have hs : w.heap.size < (w.alloc (.cells #[v, .int .i64 nx] 28)).heap.size := by simp
  obtain ⟨a, c, rfl⟩ := item_shape h
  have HO := hide ho
  have HB := hide hb
  have HS := hide hs
  generalize hL : its.length = L at *
  clear h hn ho hb hL hs
  go_enter Try.func13, Try.ntmps13
  go_upto_region 1 with fail
  generalize (w.alloc (.cells #[.slice a L c, .int .i64 nx] 28)) = W at *
  go_wp2_with fail
  refine (unhide CF).mono ?_
  rintro e w3 ⟨r, rfl, h3⟩
  obtain ⟨ha, hb3⟩ := unhide h3
  have hr : r < 0 := by
    rcases Int.lt_or_le r 0 with e | e
    · exact e
    · exact absurd (unhide HO) (in_of ha (by omega))
  have hr2 : ¬ 0 ≤ r := by omega
  have d0 : w3.cell? ⟨w.heap.size, 0, none⟩ = some (.slice a L c) := (hb3.cell (p := ⟨w.heap.size, 0, none⟩) (unhide HS)).trans b0
  have HBR := hide ((unhide HB).trans (hb3.mono (unhide HB).size))
  clear CF h3 ha hb3 HB b0 b1 bf hr
  go_wp2_with fail
  refine wp_loop_rounds 1 ?_
  rw [rounds_succ]
  by_cases h0 : (0 : Int) < (L : Int)
  · go_wp2_with fail
    go_ret
    exact ⟨rfl, unhide HBR⟩
  · go_wp2_with fail
    go_ret
    exact ⟨rfl, unhide HBR⟩

set_option maxHeartbeats 2000000 in
set_option maxRecDepth 100000 in
theorem refMembersYes {g cap : Nat} {its : List (Int × Int)} (nx k : Int) (i : Nat) (w : World) (h : w.ownsRow 0 35 2 (.slice (some ⟨g, 0, none⟩) its.length cap) its.length (enc .i64 its)) (hn : its.length ≤ 1000000) (hi1 : i < its.length) (hik : lo its i = k) (hu : ∀ m, m < its.length → lo its m = k → m = i) :
    Calls Try.prog 13 #[.agg #[.slice (some ⟨g, 0, none⟩) its.length cap, .int .i64 nx], .int .i64 k] w fun e w' => ∃ v', e = .returned v' ∧ Hid (w'.ownsRow w.heap.size 3 1 v' (memb its (hi its i)).length ((memb its (hi its i)).map (Value.int .i64)) ∧ Below w.heap.size w w') := by
  have hb : Below w.heap.size w (w.alloc (.cells #[.slice (some ⟨g, 0, none⟩) its.length cap, .int .i64 nx] 28)) := (Below.refl _ _).alloc (Nat.le_refl _) _
  have h2 := items_below h hb
  have CF := hide (refFind nx k _ h2 hn)
  have HJ : Hid (∀ r, AtIs its k r → r = (i : Int)) := fun r hr => at_one hr hi1 hik hu
  have HCC := hide (fun j hj w3 (hb3 : Below (w.alloc (.cells #[.slice (some ⟨g, 0, none⟩) its.length cap, .int .i64 nx] 28)).heap.size (w.alloc (.cells #[.slice (some ⟨g, 0, none⟩) its.length cap, .int .i64 nx] 28)) w3) => owns_cells (items_below h2 hb3) j hj)
  obtain ⟨b0, b1, bf⟩ := box2 w (.slice (some ⟨g, 0, none⟩) its.length cap) (.int .i64 nx) 28
  have hs : w.heap.size < (w.alloc (.cells #[.slice (some ⟨g, 0, none⟩) its.length cap, .int .i64 nx] 28)).heap.size := by simp
  have HB := hide hb
  have HS := hide hs
  have hiz : (i : Int) < (its.length : Int) := by omega
  have hi0 : (0 : Int) ≤ (i : Int) := by omega
  obtain ⟨mk, hmk⟩ : ∃ m, hi its i = m := ⟨_, rfl⟩
  have HMK := hide hmk
  have HI1 := hide hi1
  have HN := hide hn
  rw [hmk]
  have HTK : Hid (memb its mk = memb (its.take its.length) mk) := by show _ = _; rw [List.take_length]
  generalize hL : its.length = L at *
  have HL := hide hL
  clear h hn hb hL hs h2 hik hu hmk hi1
  go_enter Try.func13, Try.ntmps13
  go_upto_region 1 with fail
  generalize (w.alloc (.cells #[.slice (some ⟨g, 0, none⟩) L cap, .int .i64 nx] 28)) = W at *
  go_wp2_with fail
  refine (unhide CF).mono ?_
  rintro e w3 ⟨r, rfl, h3⟩
  obtain ⟨ha, hb3⟩ := unhide h3
  obtain rfl := unhide HJ r ha
  have HB3 := hide hb3
  have HBW := hide ((unhide HB).trans (hb3.mono (unhide HB).size))
  clear CF h3 ha hb3 HJ
  go_wp2_with fail
  go_loopw [6, 7] (fun s6 s7 wr => ∃ (n n6 : Nat) (a6 : Option Addr) (c6 : Nat), n ≤ L ∧ s7 = .int .i64 n ∧ s6 = .slice a6 n6 c6 ∧ Hid (n6 = (memb (its.take n) mk).length ∧ Below W.heap.size W wr ∧ wr.ownsRow W.heap.size 3 1 (.slice a6 n6 c6) n6 ((memb (its.take n) mk).map (Value.int .i64)))) (fun _ s7 _ => L - (intOf s7).toNat)
  case atStart => exact ⟨0, 0, none, 0, Nat.zero_le _, rfl, rfl, by simp [memb], unhide HB3, by simpa [memb] using World.ownsRow_nil _ _ _ _⟩
  case round =>
    obtain ⟨n, n6, a6, c6, hnL, rfl, rfl, HR⟩ := hrel
    rename World => wo
    obtain ⟨k1, k2, k3⟩ := unhide HR
    have d0 : wo.cell? ⟨w.heap.size, 0, none⟩ = some (.slice (some ⟨g, 0, none⟩) L cap) := (k2.cell (p := ⟨w.heap.size, 0, none⟩) (unhide HS)).trans b0
    by_cases hlt : n < L
    · have hnz : (n : Int) < (L : Int) := by omega
      have hnb : IntKind.i64.wrap ((n : Int) + 1) = ((n + 1 : Nat) : Int) := by have := unhide HN; rw [IntKind.wrap_i64]; omega
      obtain ⟨q1, q2⟩ := unhide HCC n hlt wo k2
      obtain ⟨-, q3⟩ := unhide HCC i (unhide HI1) wo k2
      rw [unhide HMK] at q3
      have hnl : n < its.length := by rw [unhide HL]; exact hlt
      by_cases hm : hi its n = mk
      · have hin := memb_in hnl hm
        rw [hm] at q2
        have HQW : Hid (∀ wq, (∃ q, wq = wo.drewN q) → ∃ a' c' w4, Hid ((Builtin.append_ #[37, 37] 37 #[.slice a6 n6 c6, .slice (some ⟨wq.heap.size, 0, none⟩) 1 1]).run Try.prog (wq.alloc (.cells #[.int .i64 (lo its n)] 3)) = .ok (.slice a' (n6 + 1) c') w4) ∧
            Hid (n6 + 1 = (memb (its.take (n + 1)) mk).length ∧ Below W.heap.size W w4 ∧ w4.ownsRow W.heap.size 3 1 (.slice a' (n6 + 1) c') (n6 + 1) ((memb (its.take (n + 1)) mk).map (Value.int .i64))) ∧
            wq.cell? ⟨w.heap.size, 0, none⟩ = some (.slice (some ⟨g, 0, none⟩) L cap) ∧ wq.cell? ⟨g, n * 2, none⟩ = some (.int .i64 (lo its n))) := fun wq hq => by
          obtain ⟨q, rfl⟩ := hq
          obtain ⟨a', c', w4, p1, p2, p3⟩ := snocInt (w2 := wo.drewN q) (v1 := .slice a6 n6 c6) (n := n6) (xs := (memb (its.take n) mk).map (Value.int .i64)) (B := W.heap.size) k3 (by have := memb_le (its.take n) mk; rw [List.length_take] at this; have := unhide HN; omega) k2.size (lo its n)
          refine ⟨a', c', w4, p1, ⟨?_, (below_drewN k2 q).trans p3, ?_⟩, d0, q1⟩
          · rw [hin, List.length_append, ← k1]; rfl
          · rw [hin, List.map_append]; exact p2
        clear HR k1 k2 k3 hin hm
        generalize lo its n = kn at *
        go_upto_region 6 with fail
        go_cut [34] from 11 to 43 (fun s34 wq => s34 = .bool true ∧ Hid (∃ q, wq = wo.drewN q))
        case first =>
          go_quiet (fail)
          go_wp2_with fail
          go_meet
          case rel => exact ⟨rfl, _, rfl⟩
        case rest =>
          obtain ⟨rfl, HQ⟩ := hcut
          rename World => wq
          obtain ⟨a', c', w4, HR1, HE, p1, p2⟩ := unhide HQW wq (unhide HQ)
          clear HQW HQ q1 q2 q3 d0
          go_wp2_with (at_builtin; refine Lib.wpList_append_run _ rfl _ _ 37 37 rfl (.slice a6 n6 c6) (.slice (some ⟨wq.heap.size, 0, none⟩) 1 1) rfl rfl _ _ HR1.out ?_)
          go_roundw
          case rel => exact ⟨n + 1, n6 + 1, a', c', by omega, by first | rfl | go_num, rfl, unhide HE⟩
          case measure => simp [intOf]; omega
      · have hmb : (hi its n == mk) = false := by simpa using hm
        have hout := memb_out hnl hmb
        have HE : Hid (∀ q, n6 = (memb (its.take (n + 1)) mk).length ∧ Below W.heap.size W (wo.drewN q) ∧ (wo.drewN q).ownsRow W.heap.size 3 1 (.slice a6 n6 c6) n6 ((memb (its.take (n + 1)) mk).map (Value.int .i64))) := fun q => by
          rw [hout]
          exact ⟨k1, below_drewN k2 q, k3⟩
        clear HR k1 k2 k3 hm hout
        generalize hi its n = hn2 at *
        go_upto_region 6 with fail
        go_quiet (fail)
        go_wp2_with fail
        go_roundw
        case rel => exact ⟨n + 1, n6, a6, c6, by omega, by first | rfl | go_num, rfl, unhide HE _⟩
        case measure => simp [intOf]; omega
    · have hnz : ¬ (n : Int) < (L : Int) := by omega
      obtain rfl : n = L := by omega
      have HE : Hid (wo.ownsRow w.heap.size 3 1 (.slice a6 n6 c6) (memb its mk).length ((memb its mk).map (Value.int .i64)) ∧ Below w.heap.size w wo) := by
        rw [unhide HTK, ← k1]
        exact ⟨row_down k3 (unhide HB).size, (unhide HB).trans (k2.mono (unhide HB).size)⟩
      clear HR k1 k2 k3 HTK
      go_wp2_with fail
      go_ret
      exact ⟨_, rfl, unhide HE⟩
end Go.Proofs.Ytfhidghjmookhaa
