/- The reference's Join, where it joins. -/
import Derived.Test.YtfhidghjmookhaaRefJoin
namespace Go.Proofs.Ytfhidghjmookhaa
open Go.RowKit Go.Maps

/-- One mark is put in another's place. -/
def remark (m m' : Int) (x : Int × Int) : Int × Int := if x.2 = m then (x.1, m') else x
def marked (m m' : Int) (its : List (Int × Int)) (n : Nat) : List (Int × Int) := (its.take n).map (remark m m') ++ its.drop n

theorem marked_zero (m m' : Int) (its : List (Int × Int)) : marked m m' its 0 = its := by simp [marked]
theorem marked_end (m m' : Int) (its : List (Int × Int)) : marked m m' its its.length = its.map (remark m m') := by simp [marked]
theorem marked_length (m m' : Int) (its : List (Int × Int)) (n : Nat) : (marked m m' its n).length = its.length := by simp [marked]; omega
theorem lohi {its : List (Int × Int)} {n : Nat} (h : n < its.length) : its[n] = (lo its n, hi its n) := by simp [lo, hi, List.getD, h]
theorem marked_at {m m' : Int} {its : List (Int × Int)} {n : Nat} (h : n < its.length) : lo (marked m m' its n) n = lo its n ∧ hi (marked m m' its n) n = hi its n := by
  have e : (marked m m' its n)[n]? = its[n]? := by
    unfold marked
    rw [List.getElem?_append_right (by simp; omega)]
    simp only [List.length_map, List.length_take, List.getElem?_drop]
    congr 1
    omega
  unfold lo hi List.getD
  rw [e]
  exact ⟨rfl, rfl⟩
theorem marked_next {m m' : Int} {its : List (Int × Int)} {n : Nat} (h : n < its.length) : marked m m' its (n + 1) = (marked m m' its n).set n (remark m m' (lo its n, hi its n)) := by
  unfold marked
  rw [List.take_succ_eq_append_getElem h, List.map_append, List.set_append_right _ _ (by simp; omega), List.append_assoc]
  congr 1
  simp only [List.length_map, List.length_take, List.map_cons, List.map_nil, lohi h]
  rw [show n - min n its.length = 0 by omega, List.drop_eq_getElem_cons h, List.set_cons_zero]
  rfl
theorem marked_in {m m' : Int} {its : List (Int × Int)} {n : Nat} (h : n < its.length) (hm : hi its n = m) : enc .i64 (marked m m' its (n + 1)) = (enc .i64 (marked m m' its n)).set (n * 2 + 1) (.int .i64 m') := by
  rw [marked_next h, remark, if_pos hm, ← enc_set_hi .i64 (by rw [marked_length]; exact h), (marked_at h).1]
theorem marked_out {m m' : Int} {its : List (Int × Int)} {n : Nat} (h : n < its.length) (hm : (hi its n == m) = false) : marked m m' its (n + 1) = marked m m' its n := by
  have hm' : hi its n ≠ m := by simpa using hm
  rw [marked_next h, remark, if_neg hm']
  have e : (marked m m' its n)[n]'(by rw [marked_length]; exact h) = (lo its n, hi its n) := by
    rw [lohi (by rw [marked_length]; exact h), (marked_at h).1, (marked_at h).2]
  rw [← e, List.set_getElem_self]

set_option maxHeartbeats 2000000 in
set_option maxRecDepth 100000 in
theorem refJoinYes {g cap : Nat} {its : List (Int × Int)} (nx a b : Int) (ia ib : Nat) (w : World) (h : w.ownsRow 0 35 2 (.slice (some ⟨g, 0, none⟩) its.length cap) its.length (enc .i64 its)) (hn : its.length ≤ 1000000) (hia : ia < its.length) (hib : ib < its.length) (ha : AtIs its a ia) (hb : AtIs its b ib) (hne : (hi its ia == hi its ib) = false) :
    Calls Try.prog 33 #[.agg #[(.slice (some ⟨g, 0, none⟩) its.length cap), .int .i64 nx], .int .i64 a, .int .i64 b] w fun e w' => ∃ v', e = .returned (.tuple #[.agg #[v', .int .i64 nx], .bool true]) ∧ Hid (w'.ownsRow w.heap.size 35 2 v' its.length (enc .i64 (its.map (remark (hi its ib) (hi its ia)))) ∧ Below w.heap.size w w') := by
  obtain ⟨hbx, hsz, hbw⟩ := two_at w (.slice (some ⟨g, 0, none⟩) its.length cap) nx
  have h2 := items_below h hbw
  obtain ⟨pl, hpl⟩ := places its
  have ea := at_uniq (hpl a) ha
  have eb := at_uniq (hpl b) hb
  have CA : Hid (∀ (kk : Int) (u : World), Hid (Below (two w (.slice (some ⟨g, 0, none⟩) its.length cap) nx).heap.size (two w (.slice (some ⟨g, 0, none⟩) its.length cap) nx) u) → Calls Try.prog 36 #[.agg #[(.slice (some ⟨g, 0, none⟩) its.length cap), .int .i64 nx], .int .i64 kk] u fun e w' => e = .returned (.int .i64 (pl kk)) ∧ (w'.cell? ⟨w.heap.size, 0, none⟩ = some (.slice (some ⟨g, 0, none⟩) its.length cap) ∧ w'.cell? ⟨w.heap.size, 1, none⟩ = some (.int .i64 nx)) ∧ Hid (Below (two w (.slice (some ⟨g, 0, none⟩) its.length cap) nx).heap.size (two w (.slice (some ⟨g, 0, none⟩) its.length cap) nx) w')) := fun kk u hu => by
    refine (refFind nx kk u (items_below h2 (unhide hu)) hn).mono fun e w' hh => ?_
    obtain ⟨r, he, hr⟩ := hh
    obtain ⟨r1, r2⟩ := unhide hr
    have hb2 := (unhide hu).trans (r2.mono (unhide hu).size)
    exact ⟨by rw [he, at_uniq r1 (hpl kk)], (hbx.kept hsz hb2).1, hb2⟩
  have HCC : Hid (∀ (j : Nat) (w3 : World), j < its.length → Below (two w (.slice (some ⟨g, 0, none⟩) its.length cap) nx).heap.size (two w (.slice (some ⟨g, 0, none⟩) its.length cap) nx) w3 → w3.cell? ⟨g, j * 2 + 1, none⟩ = some (.int .i64 (hi its j))) := fun j w3 hj hb3 => (owns_cells (items_below h2 hb3) j hj).2
  have HCP : Hid (∀ wq, Below (two w (.slice (some ⟨g, 0, none⟩) its.length cap) nx).heap.size (two w (.slice (some ⟨g, 0, none⟩) its.length cap) nx) wq → ∃ g5 c5 w6, Hid ((Builtin.append_ #[26, 26] 26 #[.slice (some ⟨wq.heap.size, 0, none⟩) 0 0, (.slice (some ⟨g, 0, none⟩) its.length cap)]).run Try.prog (wq.alloc (.cells #[] 35)) = .ok (.slice (some ⟨g5, 0, none⟩) its.length c5) w6) ∧ Hid (wq.heap.size ≤ g5 ∧ w6.ownsRow wq.heap.size 35 2 (.slice (some ⟨g5, 0, none⟩) its.length c5) its.length (enc .i64 its) ∧ Below wq.heap.size wq w6)) := fun wq hq => by
    obtain ⟨a1, c1, w6, p1, p2, p3, -⟩ := copyRow (items_below h2 hq) hn
    obtain ⟨g5, c5, e5⟩ := item_block (row_low p2 (Nat.zero_le _) (fun _ _ => rfl)) (by omega)
    rw [e5] at p1 p2
    exact ⟨g5, c5, w6, p1, (p2.lt g5 rfl).1, p2, p3⟩
  have HEND : Hid (∀ wr wq v', Below (two w (.slice (some ⟨g, 0, none⟩) its.length cap) nx).heap.size (two w (.slice (some ⟨g, 0, none⟩) its.length cap) nx) wq → Below wq.heap.size wq wr → wr.ownsRow wq.heap.size 35 2 v' its.length (enc .i64 (its.map (remark (hi its ib) (hi its ia)))) →
      Boxes w wr (.slice (some ⟨g, 0, none⟩) its.length cap) (.int .i64 nx) (.slice none 0 0) (.int .i64 0) ∧ Hid ((((wr.setCell ⟨w.heap.size + 1, 0, none⟩ v').setCell ⟨w.heap.size + 1, 1, none⟩ (.int .i64 nx)).cell? ⟨w.heap.size + 1, 0, none⟩ = some v' ∧ ((wr.setCell ⟨w.heap.size + 1, 0, none⟩ v').setCell ⟨w.heap.size + 1, 1, none⟩ (.int .i64 nx)).cell? ⟨w.heap.size + 1, 1, none⟩ = some (.int .i64 nx)) ∧ ((wr.setCell ⟨w.heap.size + 1, 0, none⟩ v').setCell ⟨w.heap.size + 1, 1, none⟩ (.int .i64 nx)).ownsRow w.heap.size 35 2 v' its.length (enc .i64 (its.map (remark (hi its ib) (hi its ia)))) ∧ Below w.heap.size w ((wr.setCell ⟨w.heap.size + 1, 0, none⟩ v').setCell ⟨w.heap.size + 1, 1, none⟩ (.int .i64 nx)))) := fun wr wq v' hq hr ho => by
    have hb3 := hq.trans (hr.mono hq.size)
    have bx := hbx.kept hsz hb3
    exact ⟨bx, res_end (by have := hq.size; omega) ho (hbw.trans (hb3.mono hbw.size)) ⟨_, bx.2.1.1⟩ ⟨_, bx.2.1.2⟩⟩
  obtain ⟨ma, hma⟩ : ∃ m, hi its ia = m := ⟨_, rfl⟩
  obtain ⟨mb, hmb⟩ : ∃ m, hi its ib = m := ⟨_, rfl⟩
  have HMA := hide hma
  have HMB := hide hmb
  rw [hma, hmb] at hne HEND ⊢
  have HB := hide hbw
  have HSZ := hide hsz
  have HBX := hide hbx
  have HN := hide hn
  have HI := hide (And.intro hia hib)
  have hi1 : (ia : Int) < (its.length : Int) := by omega
  have hi2 : (ib : Int) < (its.length : Int) := by omega
  have hi3 : ¬ (ia : Int) < 0 := by omega
  have hi4 : ¬ (ib : Int) < 0 := by omega
  have HMAP : Hid (its.map (remark mb ma) = marked mb ma its its.length) := (marked_end _ _ _).symm
  have HZ := hide (marked_zero mb ma its)
  generalize hL : its.length = L at *
  have HL := hide hL
  obtain ⟨⟨a0, a1⟩, ⟨r0, r1⟩, fa, fr⟩ := hbx
  clear h hn ha hb hbw hsz hL h2 hpl hia hib hma hmb
  have HEA := hide ea
  have HEB := hide eb
  clear ea eb
  go_enter Try.func33, Try.ntmps33
  go_upto_region 1 with fail
  unfold two at *
  generalize ((w.alloc (.cells #[.slice (some ⟨g, 0, none⟩) L cap, .int .i64 nx] 28)).alloc (.cells #[.slice none 0 0, .int .i64 0] 28)) = W at *
  have HD : Hid (Below W.heap.size W W.drew) := below_drewN (Below.refl _ _) 1
  go_cut [8, 9] from 14 to 19 (fun s8 s9 wq => s8 = .int .i64 ia ∧ s9 = .int .i64 ib ∧ Hid (Below W.heap.size W wq))
  case first =>
    go_region_held3 (fun w' => w'.cell? ⟨w.heap.size, 0, none⟩ = some (.slice (some ⟨g, 0, none⟩) L cap) ∧ w'.cell? ⟨w.heap.size, 1, none⟩ = some (.int .i64 nx)) (first | exact ⟨dd1, dd2⟩ | exact ⟨a0, a1⟩ | (go_keep; done)) ((go_at_call 36; refine (unhide CA _ _ (by first | assumption | exact HD)).mono ?_; rintro e w' ⟨rfl, ⟨dd1, dd2⟩, hT⟩))
    all_goals
      go_wp2_with fail
      go_meet
      case rel => exact ⟨by rw [unhide HEA], by rw [unhide HEB], unhide hT⟩
  case rest =>
    obtain ⟨rfl, rfl, HT⟩ := hcut
    rename World => w3
    clear CA HEA HEB HD
    obtain ⟨⟨d0, d1⟩, ⟨e0, e1⟩, df, ef⟩ := (unhide HBX).kept (unhide HSZ) (unhide HT)
    have m1 := unhide HCC ia w3 (unhide HI).1 (unhide HT)
    have m2 := unhide HCC ib w3 (unhide HI).2 (unhide HT)
    rw [unhide HMA] at m1
    rw [unhide HMB] at m2
    have HBQ : Hid (∀ wq, (∃ q, wq = w3.drewN q) → Below W.heap.size W wq) := fun wq hq => by obtain ⟨q, rfl⟩ := hq; exact below_drewN (unhide HT) q
    clear HT a0 a1 r0 r1 fa fr HCC
    go_upto_region 2 with fail
    go_quiet (fail)
    go_upto_region 4 with fail
    go_cut [10, 11] from 42 to 53 (fun s10 s11 wq => s10 = .int .i64 mb ∧ s11 = .int .i64 ma ∧ Hid (∃ q, wq = w3.drewN q))
    case first =>
      go_quiet (fail)
      go_wp2_with fail
      go_meet
      case rel => exact ⟨rfl, rfl, _, rfl⟩
    case rest =>
      obtain ⟨rfl, rfl, HQ⟩ := hcut
      rename World => wq
      have HBW := hide (unhide HBQ wq (unhide HQ))
      have p0 : wq.cell? ⟨w.heap.size, 0, none⟩ = some (.slice (some ⟨g, 0, none⟩) L cap) := by obtain ⟨q, rfl⟩ := unhide HQ; exact d0
      have p1 := cell_made (.cells #[] 35) p0
      obtain ⟨g5, c5, w6, HR1, H6⟩ := unhide HCP wq (unhide HBW)
      clear HBQ HQ HCP d0 d1 e0 e1 df ef m1 m2
      go_wp2_with (at_builtin; refine Lib.wpList_append_run _ rfl _ _ 26 26 rfl (.slice (some ⟨wq.heap.size, 0, none⟩) 0 0) (.slice (some ⟨g, 0, none⟩) L cap) rfl rfl _ _ HR1.out ?_)
      go_loopw [13] (fun s13 wr => ∃ n : Nat, n ≤ L ∧ s13 = .int .i64 n ∧ Hid (wr.ownsRow wq.heap.size 35 2 (.slice (some ⟨g5, 0, none⟩) L c5) L (enc .i64 (marked mb ma its n)) ∧ Below wq.heap.size wq wr)) (fun s13 _ => L - (intOf s13).toNat)
      case atStart => exact ⟨0, Nat.zero_le _, rfl, by rw [unhide HZ]; exact (unhide H6).2.1, (unhide H6).2.2⟩
      case round =>
        obtain ⟨n, hnL, rfl, HR⟩ := hrel
        rename World => wo
        obtain ⟨k1, k2⟩ := unhide HR
        by_cases hlt : n < L
        · have hnz : (n : Int) < (L : Int) := by omega
          have hnb : IntKind.i64.wrap ((n : Int) + 1) = ((n + 1 : Nat) : Int) := by have := unhide HN; rw [IntKind.wrap_i64]; omega
          have hnl : n < its.length := by rw [unhide HL]; exact hlt
          have q1 := (owns_cells (row_low k1 (Nat.zero_le _) (fun _ _ => rfl)) n hlt).2
          rw [(marked_at hnl).2] at q1
          have qf := k1.frozenAt (n * 2 + 1)
          by_cases hm : hi its n = mb
          · rw [hm] at q1
            have hst := (k1.stored (n * 2 + 1) (.int .i64 ma)).1
            rw [← marked_in hnl hm] at hst
            have HE : Hid ((wo.setCell ⟨g5, n * 2 + 1, none⟩ (.int .i64 ma)).ownsRow wq.heap.size 35 2 (.slice (some ⟨g5, 0, none⟩) L c5) L (enc .i64 (marked mb ma its (n + 1))) ∧ Below wq.heap.size wq (wo.setCell ⟨g5, n * 2 + 1, none⟩ (.int .i64 ma))) := ⟨hst, k2.setCell (p := ⟨g5, n * 2 + 1, none⟩) (unhide H6).1 _⟩
            clear HR k1 k2 hst hm
            go_wp2_with fail
            go_roundw
            case rel => exact ⟨n + 1, by omega, by first | rfl | go_num, unhide HE⟩
            case measure => simp [intOf]; omega
          · have hmb : (hi its n == mb) = false := by simpa using hm
            have HE : Hid (wo.ownsRow wq.heap.size 35 2 (.slice (some ⟨g5, 0, none⟩) L c5) L (enc .i64 (marked mb ma its (n + 1))) ∧ Below wq.heap.size wq wo) := by
              rw [marked_out hnl hmb]
              exact ⟨k1, k2⟩
            clear HR k1 k2 hm
            generalize hi its n = hn2 at *
            go_wp2_with fail
            go_roundw
            case rel => exact ⟨n + 1, by omega, by first | rfl | go_num, unhide HE⟩
            case measure => simp [intOf]; omega
        · have hnz : ¬ (n : Int) < (L : Int) := by omega
          obtain rfl : n = L := by omega
          rw [← unhide HMAP] at k1
          obtain ⟨bx, HE⟩ := unhide HEND wo wq _ (unhide HBW) k2 k1
          obtain ⟨⟨d0, d1⟩, ⟨e0, e1⟩, df, ef⟩ := bx
          clear HR k1 k2 HMAP HEND HZ
          go_wp2_with fail
          (try simp only [Exit.inBlock, Exit.then])
          refine bodyPost_ret (res2 rfl _ _ (w.heap.size + 1) _ _ rfl (unhide HE).1.1 (unhide HE).1.2) rfl ?_
          exact ⟨_, rfl, (unhide HE).2⟩
end Go.Proofs.Ytfhidghjmookhaa
