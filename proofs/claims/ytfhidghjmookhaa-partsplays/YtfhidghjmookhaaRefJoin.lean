/- The reference's Join. -/
import Derived.Test.YtfhidghjmookhaaRefDrop
namespace Go.Proofs.Ytfhidghjmookhaa
open Go.RowKit Go.Maps

theorem at_uniq {its : List (Int × Int)} {k r r' : Int} (h : AtIs its k r) (h' : AtIs its k r') : r = r' := by
  rcases h with ⟨e, h⟩ | ⟨i, h1, e, h3, h4⟩
  · rcases h' with ⟨e', -⟩ | ⟨i', h1', -, h3', -⟩
    · rw [e, e']
    · exact absurd h3' (h i' h1')
  · rcases h' with ⟨-, h'⟩ | ⟨i', h1', e', h3', h4'⟩
    · exact absurd h3 (h' i h1)
    · rcases Nat.lt_trichotomy i i' with g | g | g
      · exact absurd h3 (h4' i g)
      · rw [e, e', g]
      · exact absurd h3' (h4 i' g)

theorem least_of {P : Nat → Prop} : ∀ n, (∃ i, i < n ∧ P i) → ∃ i, i < n ∧ P i ∧ ∀ j, j < i → ¬ P j
  | 0, h => by obtain ⟨i, hi, -⟩ := h; omega
  | n + 1, h => by
    by_cases h0 : ∃ i, i < n ∧ P i
    · obtain ⟨i, h1, h2, h3⟩ := least_of n h0
      exact ⟨i, by omega, h2, h3⟩
    · obtain ⟨i, h1, h2⟩ := h
      refine ⟨i, h1, h2, fun j hj hP => h0 ⟨j, by omega, hP⟩⟩
theorem at_ex (its : List (Int × Int)) (k : Int) : ∃ r, AtIs its k r := by
  by_cases h : ∃ i, i < its.length ∧ lo its i = k
  · obtain ⟨i, h1, h2, h3⟩ := least_of its.length h
    exact ⟨i, .inr ⟨i, h1, rfl, h2, h3⟩⟩
  · exact ⟨-1, .inl ⟨rfl, fun i hi e => h ⟨i, hi, e⟩⟩⟩
theorem places (its : List (Int × Int)) : ∃ pl : Int → Int, ∀ k, AtIs its k (pl k) := ⟨fun k => (at_ex its k).choose, fun k => (at_ex its k).choose_spec⟩

theorem enc_set (k : IntKind) : ∀ (its : List (Int × Int)) (i : Nat) (x : Int × Int), enc k (its.set i x) = ((enc k its).set (i * 2) (.int k x.1)).set (i * 2 + 1) (.int k x.2)
  | [], i, x => by simp [enc]
  | r :: rs, 0, x => by simp [enc]
  | r :: rs, i + 1, x => by
    rw [List.set_cons_succ, enc_cons, enc_set k rs i x, enc_cons, show (i + 1) * 2 = i * 2 + 1 + 1 by omega, show i * 2 + 1 + 1 + 1 = (i * 2 + 1) + 1 + 1 by omega]
    simp only [List.set_cons_succ]
theorem enc_set_hi (k : IntKind) {its : List (Int × Int)} {i : Nat} (h : i < its.length) (x : Int) : enc k (its.set i (lo its i, x)) = (enc k its).set (i * 2 + 1) (.int k x) := by
  rw [enc_set]
  congr 1
  apply List.ext_getElem?
  intro j
  by_cases e : i * 2 = j
  · subst e
    rw [List.getElem?_set_self (by rw [enc_length]; omega), enc_lo k its i h]
  · rw [List.getElem?_set_ne e]

set_option maxHeartbeats 2000000 in
set_option maxRecDepth 100000 in
theorem refJoinNo {v : Value} {its : List (Int × Int)} (nx a b ra rb : Int) (w : World) (h : w.ownsRow 0 35 2 v its.length (enc .i64 its)) (hn : its.length ≤ 1000000) (ha : AtIs its a ra) (hb : AtIs its b rb) (hno : ra < 0 ∨ rb < 0 ∨ hi its ra.toNat = hi its rb.toNat) :
    Calls Try.prog 33 #[.agg #[v, .int .i64 nx], .int .i64 a, .int .i64 b] w fun e w' => e = .returned (.tuple #[.agg #[v, .int .i64 nx], .bool false]) ∧ Hid (Below w.heap.size w w') := by
  obtain ⟨hbx, hsz, hbw⟩ := two_at w v nx
  have h2 := items_below h hbw
  obtain ⟨pl, hpl⟩ := places its
  obtain rfl := at_uniq (hpl a) ha
  obtain rfl := at_uniq (hpl b) hb
  have CA : Hid (∀ (kk : Int) (u : World), Hid (Below (two w v nx).heap.size (two w v nx) u) → Calls Try.prog 36 #[.agg #[v, .int .i64 nx], .int .i64 kk] u fun e w' => e = .returned (.int .i64 (pl kk)) ∧ (w'.cell? ⟨w.heap.size, 0, none⟩ = some v ∧ w'.cell? ⟨w.heap.size, 1, none⟩ = some (.int .i64 nx)) ∧ Hid (Below (two w v nx).heap.size (two w v nx) w')) := fun kk u hu => by
    refine (refFind nx kk u (items_below h2 (unhide hu)) hn).mono fun e w' hh => ?_
    obtain ⟨r, he, hr⟩ := hh
    obtain ⟨r1, r2⟩ := unhide hr
    have hb2 := (unhide hu).trans (r2.mono (unhide hu).size)
    exact ⟨by rw [he, at_uniq r1 (hpl kk)], (hbx.kept hsz hb2).1, hb2⟩
  have HCC : Hid (∀ (j : Nat) (w3 : World), j < its.length → Below (two w v nx).heap.size (two w v nx) w3 → (∃ g c, v = .slice (some ⟨g, 0, none⟩) its.length c) → ∃ g c, v = .slice (some ⟨g, 0, none⟩) its.length c ∧ w3.cell? ⟨g, j * 2 + 1, none⟩ = some (.int .i64 (hi its j))) := fun j w3 hj hb3 gc => by
    obtain ⟨g, c, rfl⟩ := gc
    exact ⟨g, c, rfl, (owns_cells (items_below h2 hb3) j hj).2⟩
  have HBLK : Hid (0 < its.length → ∃ g c, v = .slice (some ⟨g, 0, none⟩) its.length c) := fun h0 => item_block h h0
  obtain ⟨a', c', rfl⟩ := item_shape h
  have HAT := hide (And.intro ha hb)
  have HNO := hide hno
  have HB := hide hbw
  have HSZ := hide hsz
  have HBX := hide hbx
  generalize hL : its.length = L at *
  have HL := hide hL
  obtain ⟨⟨a0, a1⟩, ⟨r0, r1⟩, fa, fr⟩ := hbx
  clear h hn ha hb hbw hsz hL hno h2 hpl
  go_enter Try.func33, Try.ntmps33
  go_upto_region 1 with fail
  unfold two at *
  generalize ((w.alloc (.cells #[.slice a' L c', .int .i64 nx] 28)).alloc (.cells #[.slice none 0 0, .int .i64 0] 28)) = W at *
  have HD : Hid (Below W.heap.size W W.drew) := below_drewN (Below.refl _ _) 1
  go_cut [8, 9] from 14 to 19 (fun s8 s9 wq => s8 = .int .i64 (pl a) ∧ s9 = .int .i64 (pl b) ∧ Hid (Below W.heap.size W wq))
  case first =>
    go_region_held3 (fun w' => w'.cell? ⟨w.heap.size, 0, none⟩ = some (.slice a' L c') ∧ w'.cell? ⟨w.heap.size, 1, none⟩ = some (.int .i64 nx)) (first | exact ⟨dd1, dd2⟩ | exact ⟨a0, a1⟩ | (go_keep; done)) ((go_at_call 36; refine (unhide CA _ _ (by first | assumption | exact HD)).mono ?_; rintro e w' ⟨rfl, ⟨dd1, dd2⟩, hT⟩))
    all_goals
      go_wp2_with fail
      go_meet
      case rel => exact ⟨rfl, rfl, unhide hT⟩
  case rest =>
    obtain ⟨rfl, rfl, HT⟩ := hcut
    rename World => w3
    generalize pl a = ra at *
    generalize pl b = rb at *
    obtain ⟨⟨d0, d1⟩, ⟨e0, e1⟩, df, ef⟩ := (unhide HBX).kept (unhide HSZ) (unhide HT)
    have HRW : Hid (∀ q, (((w3.drewN q).setCell ⟨w.heap.size + 1, 0, none⟩ (.slice a' L c')).setCell ⟨w.heap.size + 1, 1, none⟩ (.int .i64 nx)).cell? ⟨w.heap.size + 1, 0, none⟩ = some (.slice a' L c') ∧ (((w3.drewN q).setCell ⟨w.heap.size + 1, 0, none⟩ (.slice a' L c')).setCell ⟨w.heap.size + 1, 1, none⟩ (.int .i64 nx)).cell? ⟨w.heap.size + 1, 1, none⟩ = some (.int .i64 nx)) := fun q => stored2 (w := w3.drewN q) e0 e1 _ _
    have HBR : Hid (∀ q, Below w.heap.size w (((w3.drewN q).setCell ⟨w.heap.size + 1, 0, none⟩ (.slice a' L c')).setCell ⟨w.heap.size + 1, 1, none⟩ (.int .i64 nx))) := fun q => below2 (below_drewN ((unhide HB).trans ((unhide HT).mono (unhide HB).size)) q) (by omega) _ _
    have HM : Hid (ra < 0 ∨ 0 ≤ ra ∧ rb < 0 ∨ ∃ i j g m : Nat, ∃ mk : Int, ra = (i : Int) ∧ rb = (j : Int) ∧ i < L ∧ j < L ∧ a' = some ⟨g, 0, none⟩ ∧ w3.cell? ⟨g, i * 2 + 1, none⟩ = some (.int .i64 mk) ∧ w3.cell? ⟨g, j * 2 + 1, none⟩ = some (.int .i64 mk)) := by
      rcases Int.lt_or_le ra 0 with h1 | h1
      · exact .inl h1
      · rcases Int.lt_or_le rb 0 with h2 | h2
        · exact .inr (.inl ⟨h1, h2⟩)
        · obtain ⟨i, i1, i2⟩ : ∃ i : Nat, i < L ∧ ra = (i : Int) := by
            rcases (unhide HAT).1 with ⟨e, -⟩ | ⟨i, i1, e, -⟩
            · omega
            · exact ⟨i, by rw [← unhide HL]; exact i1, e⟩
          obtain ⟨j, j1, j2⟩ : ∃ j : Nat, j < L ∧ rb = (j : Int) := by
            rcases (unhide HAT).2 with ⟨e, -⟩ | ⟨i, i1, e, -⟩
            · omega
            · exact ⟨i, by rw [← unhide HL]; exact i1, e⟩
          obtain ⟨g1, cc1, f1, f2⟩ := unhide HCC i w3 i1 (unhide HT) (unhide HBLK (by omega))
          obtain ⟨g2, cc2, f3, f4⟩ := unhide HCC j w3 j1 (unhide HT) (unhide HBLK (by omega))
          simp at f1 f3
          have hg : g1 = g2 := by
            have := f1.1.symm.trans f3.1
            simpa using this
          subst hg
          refine .inr (.inr ⟨i, j, g1, 0, _, i2, j2, i1, j1, f1.1, f2, ?_⟩)
          rcases unhide HNO with h3 | h3 | h3
          · omega
          · omega
          · rw [i2, j2] at h3
            simp only [Int.toNat_natCast] at h3
            rw [h3]
            exact f4
    clear CA HCC HBLK HAT HNO HB HSZ HBX HT HL HD a0 a1 r0 r1 fa fr
    rcases unhide HM with h1 | ⟨h1, h2⟩ | ⟨i, j, g, _, mk, rfl, rfl, hi1, hj1, rfl, m1, m2⟩
    · clear HM
      go_upto_region 2 with fail
      go_quiet (fail)
      go_wp2_with fail
      (try simp only [Exit.inBlock, Exit.then])
      refine bodyPost_ret (res2 rfl _ _ (w.heap.size + 1) _ _ rfl (unhide HRW _).1 (unhide HRW _).2) rfl ?_
      exact ⟨rfl, unhide HBR _⟩
    · have h1' : ¬ ra < 0 := by omega
      clear HM
      go_upto_region 2 with fail
      go_quiet (fail)
      go_wp2_with fail
      (try simp only [Exit.inBlock, Exit.then])
      refine bodyPost_ret (res2 rfl _ _ (w.heap.size + 1) _ _ rfl (unhide HRW _).1 (unhide HRW _).2) rfl ?_
      exact ⟨rfl, unhide HBR _⟩
    · have h1' : ¬ (i : Int) < 0 := by omega
      have h2' : ¬ (j : Int) < 0 := by omega
      have hiz : (i : Int) < (L : Int) := by omega
      have hjz : (j : Int) < (L : Int) := by omega
      clear HM
      go_upto_region 2 with fail
      go_quiet (fail)
      go_wp2_with fail
      (try simp only [Exit.inBlock, Exit.then])
      refine bodyPost_ret (res2 rfl _ _ (w.heap.size + 1) _ _ rfl (unhide HRW _).1 (unhide HRW _).2) rfl ?_
      exact ⟨rfl, unhide HBR _⟩
end Go.Proofs.Ytfhidghjmookhaa
