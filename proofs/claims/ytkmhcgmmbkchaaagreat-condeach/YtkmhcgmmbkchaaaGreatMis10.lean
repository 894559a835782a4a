/- Missing: a vertex that is not there. -/
import Derived.Test.YtkmhcgmmbkchaaaGreatLawM10
namespace Go.Proofs.YtkmhcgmmbkchaaaGreat
open Go.RowKit Go.Maps T9
/-- In the midst of one pass. -/
def MisM (V : List Int) (k : Nat) (v : Int) : Prop := 1099511627776 ≤ v ∧ v ≤ 1099511627776 + (V.length : Int) ∧ (v ∉ V ∨ (v ∉ V.take k ∧ v ≤ 1099511627776 + (k : Int)))
theorem mis_next {V : List Int} (hs : V.Pairwise (· < ·)) {k : Nat} {v x : Int} (h : MisM V k v) (hx : V[k]? = some x) : (x = v → MisM V (k + 1) (v + 1)) ∧ (x ≠ v → MisM V (k + 1) v) := by
  obtain ⟨h1, h2, h3⟩ := h
  have hk := (List.getElem?_eq_some_iff.1 hx).1
  have ht : V.take (k + 1) = V.take k ++ [x] := by rw [List.take_add_one, hx]; rfl
  constructor
  · intro e
    rcases h3 with h3 | ⟨h3, h4⟩
    · exact absurd (by rw [← e]; exact List.mem_of_getElem? hx) h3
    · refine ⟨by omega, by omega, .inr ⟨fun hm => ?_, by omega⟩⟩
      rw [ht] at hm
      rcases List.mem_append.1 hm with q | q
      · obtain ⟨j, hj⟩ := List.getElem?_of_mem q
        obtain ⟨hjl, he⟩ := List.getElem?_eq_some_iff.1 hj
        rw [List.length_take] at hjl
        have hj2 : V[j]'(by omega) = v + 1 := by rw [← he]; simp
        have hx2 : V[k] = x := (List.getElem?_eq_some_iff.1 hx).2
        have := List.pairwise_iff_getElem.1 hs j k (by omega) hk (by omega)
        omega
      · have := List.mem_singleton.1 q; omega
  · intro e
    refine ⟨h1, h2, h3.imp id (fun ⟨h3, h4⟩ => ⟨fun hm => ?_, by omega⟩)⟩
    rw [ht] at hm
    rcases List.mem_append.1 hm with q | q
    · exact h3 q
    · exact e (List.mem_singleton.1 q).symm
theorem okN_mid {v : Int} (h : -9223372036854775808 ≤ v ∧ v ≤ 9223372036854775807) : okN v := by
  unfold okN
  have e1 : IntKind.i64.min = -9223372036854775808 := by rfl
  have e2 : IntKind.i64.max = 9223372036854775807 := by rfl
  simp [Lit.wf, e1, e2]
  omega
set_option maxHeartbeats 4000000 in
set_option maxRecDepth 100000 in
theorem missingS {w : World} {vv ev : Value} {rd wr_0 : Int} {V : List Int} (hvv : NRow w vv V) (hs : V.Pairwise (· < ·)) (hl : V.length ≤ 1000) :
    Calls Tryz.prog 12 #[.agg #[vv, ev, .int .i64 rd, .int .i64 wr_0]] w fun e w' => ∃ v, e = .returned (.int .i64 v) ∧ Hid (v ∉ V ∧ okN v ∧ Below w.heap.size w w') := by
  have hb := below_new w (oG vv ev rd wr_0)
  have hbx := heap_alloc_new w (oG vv ev rd wr_0)
  have h1 := nrow_below hvv hb
  obtain ⟨va, vc, hv0, -⟩ := brow_shape hvv
  obtain ⟨vn, hvn⟩ : ∃ vn, vn = V.length := ⟨_, rfl⟩
  rw [← hvn] at hv0
  subst hv0
  have HB : Hid (Below w.heap.size w (w.alloc (oG (.slice va vn vc) ev rd wr_0)) ∧ NRow (w.alloc (oG (.slice va vn vc) ev rd wr_0)) (.slice va vn vc) V) := ⟨hb, h1⟩
  obtain ⟨c0, -⟩ := cellsG hbx
  have HV : Hid (vn = V.length ∧ vn ≤ 1000 ∧ V.Pairwise (· < ·)) := ⟨hvn, by omega, hs⟩
  obtain ⟨big, hbig⟩ : ∃ big : Int, big = 1099511627776 := ⟨_, rfl⟩
  have HG : Hid (MisM V 0 big) := ⟨by omega, by omega, .inr ⟨by simp, by omega⟩⟩
  have HBG := hide hbig
  clear hb hbx h1 hvv hs hl hvn hbig
  go_enter Tryz.func12, Tryz.ntmps12
  go_upto_region 1 with fail
  change Code.wp _ _ _ _ (w.alloc (oG (.slice va vn vc) ev rd wr_0))
  generalize w.alloc (oG (.slice va vn vc) ev rd wr_0) = wb at *
  generalize hgb : w.heap.size = gb at *
  have HGB := hide hgb
  clear hgb
  go_upto_region 3 with fail
  rw [← unhide HBG]
  clear HBG
  go_loopw [4, 3] (fun s4 s3 W => ∃ (i : Nat) (v : Int), s4 = .int .i64 (i : Nat) ∧ s3 = .int .i64 v ∧ W = wb ∧ i ≤ vn + 1 ∧ Hid (MisM V 0 v ∧ (i ≠ 0 → v ∉ V))) (fun s4 _ _ => vn + 1 - (intOf s4).toNat)
  case atStart => exact ⟨0, big, rfl, rfl, rfl, Nat.zero_le _, unhide HG, fun q => absurd rfl q⟩
  case round =>
    obtain ⟨i, v, rfl, rfl, hw, hi, hS⟩ := hrel
    subst hw
    clear HG
    by_cases hlt : i ≤ vn
    · have z1 : (i : Int) ≤ (vn : Int) := by omega
      obtain ⟨i1, hi1⟩ : ∃ i1, i1 = i + 1 := ⟨_, rfl⟩
      have zi : Hid (wrap64 ((i : Int) + 1) = (i1 : Int)) := by
        have := (unhide HV).2.1
        show wrap64 ((i : Int) + 1) = (i1 : Int); unfold wrap64; omega
      have HI : Hid (i1 ≠ 0 ∧ i1 ≤ vn + 1 ∧ vn + 1 - i1 < vn + 1 - i) := ⟨by omega, by omega, by omega⟩
      have HS0 := hide (unhide hS).1
      clear hS hi hlt hi1
      go_upto_region 6 with fail
      clear z1
      go_loopw [17, 3] (fun s17 s3 W => ∃ (k : Nat) (v : Int), s17 = .int .i64 (k : Nat) ∧ s3 = .int .i64 v ∧ W = wr ∧ k ≤ vn ∧ Hid (MisM V k v)) (fun s17 _ _ => vn - (intOf s17).toNat)
      case atStart => exact ⟨0, v, rfl, rfl, rfl, Nat.zero_le _, HS0⟩
      case round =>
        obtain ⟨k, v2, rfl, rfl, hw, hk, hS⟩ := hrel
        subst hw
        clear HS0
        by_cases hlk : k < vn
        · have z1 : (k : Int) < (vn : Int) := by omega
          obtain ⟨k1, hk1⟩ : ∃ k1, k1 = k + 1 := ⟨_, rfl⟩
          have zk : Hid (wrap64 ((k : Int) + 1) = (k1 : Int)) := by
            have := (unhide HV).2.1
            show wrap64 ((k : Int) + 1) = (k1 : Int); unfold wrap64; omega
          have HK : Hid (k1 ≤ vn ∧ vn - k1 < vn - k) := ⟨by omega, by omega⟩
          obtain ⟨x, hx⟩ : ∃ x, V[k]? = some x := ⟨_, List.getElem?_eq_getElem (by have := (unhide HV).1; omega)⟩
          obtain ⟨gv, hgv⟩ := brow_some (unhide HB).2 (by have := (unhide HV).1; omega)
          subst hgv
          have cx := brow_at (unhide HB).2 hx
          obtain ⟨m1, m2⟩ := mis_next (unhide HV).2.2 (unhide hS) hx
          rw [← hk1] at m1 m2
          by_cases hxv : x = v2
          · have HD := hide (m1 hxv)
            subst hxv
            obtain ⟨x1, hx1⟩ : ∃ x1, x1 = x + 1 := ⟨_, rfl⟩
            rw [← hx1] at HD
            have zx : Hid (wrap64 (x + 1) = x1) := by
              obtain ⟨q1, q2, -⟩ := unhide HD
              have := (unhide HV).1
              have := (unhide HV).2.1
              show wrap64 (x + 1) = x1; unfold wrap64; omega
            clear hS hk hlk hk1 hx m1 m2 hx1
            go_wp2_with fail
            (try rw [unhide zk])
            (try rw [unhide zx])
            exact ⟨⟨k1, x1, rfl, rfl, by trivial, (unhide HK).1, HD⟩, by have := (unhide HK).2; simp [intOf]; omega⟩
          · have HD := hide (m2 hxv)
            have z5 : (x == v2) = false := by simpa using hxv
            clear hS hk hlk hk1 hx m1 m2 hxv
            go_wp2_with fail
            (try rw [unhide zk])
            exact ⟨⟨k1, v2, rfl, rfl, by trivial, (unhide HK).1, HD⟩, by have := (unhide HK).2; simp [intOf]; omega⟩
        · have z1 : ¬ (k : Int) < (vn : Int) := by omega
          have HD : Hid (MisM V 0 v2 ∧ (i1 ≠ 0 → v2 ∉ V)) := by
            obtain ⟨q1, q2, q3⟩ := unhide hS
            have hn : v2 ∉ V := by
              rcases q3 with q | ⟨q, -⟩
              · exact q
              · rwa [List.take_of_length_le (by have := (unhide HV).1; omega)] at q
            exact ⟨⟨q1, q2, .inl hn⟩, fun _ => hn⟩
          clear hS hk hlk
          go_wp2_with fail
          (try rw [unhide zi])
          exact ⟨⟨i1, v2, rfl, rfl, by trivial, (unhide HI).2.1, HD⟩, by have := (unhide HI).2.2; simp [intOf]; omega⟩
    · have z1 : ¬ (i : Int) ≤ (vn : Int) := by omega
      have HE : Hid (v ∉ V ∧ okN v ∧ Below w.heap.size w wr) := by
        obtain ⟨⟨q1, q2, -⟩, q3⟩ := unhide hS
        have := (unhide HV).1
        have := (unhide HV).2.1
        refine ⟨q3 (by omega), okN_mid (by omega), ?_⟩
        have := (unhide HB).1
        rw [unhide HGB]; exact this
      clear hS hi hlt
      go_wp2_with fail
      go_ret
      exact ⟨v, rfl, unhide HE⟩
end Go.Proofs.YtkmhcgmmbkchaaaGreat
