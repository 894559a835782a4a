/- Rows of the heads of lists. -/
import Derived.Test.YtkmhcgmmbkchaaaGreatArcsW10
import Derived.Test.YtkmhcgmmbkchaaaGreatTail
namespace Go.Proofs.YtkmhcgmmbkchaaaGreat

section
open Go.RowKit Go.Maps
abbrev oM : Obj := .map #[] 0
/-- What New makes. -/
structure NewK (w : World) (c p m ma ml me : Nat) (w' : World) : Prop where
  below : Below w.heap.size w w'
  box : w'.heap[c]? = some (oC p ma ml me 0)
  at_ : PAtN w' p m []
  maps : w'.heap[ma]? = some oM ∧ w'.heap[ml]? = some oM ∧ w'.heap[me]? = some oM
  new : w.heap.size ≤ p ∧ w.heap.size ≤ m ∧ p < ma ∧ m < ma
  rise : ma < ml ∧ ml < me ∧ me < c
theorem newK_of {w w1 : World} {p m : Nat} (h : PAtN w1 p m [] ∧ Below w.heap.size w w1 ∧ w.heap.size ≤ p ∧ w.heap.size ≤ m) :
    NewK w (w1.heap.size + 3) p m w1.heap.size (w1.heap.size + 1) (w1.heap.size + 2) ((((w1.alloc oM).alloc oM).alloc oM).alloc (oC p w1.heap.size (w1.heap.size + 1) (w1.heap.size + 2) 0)) := by
  obtain ⟨h1, h2, h3, h4⟩ := h
  have b1 := below_new w1 oM
  have b2 := below_new (w1.alloc oM) oM
  have b3 := below_new ((w1.alloc oM).alloc oM) oM
  have b4 := below_new (((w1.alloc oM).alloc oM).alloc oM) (oC p w1.heap.size (w1.heap.size + 1) (w1.heap.size + 2) 0)
  have s1 : (w1.alloc oM).heap.size = w1.heap.size + 1 := by simp
  have s2 : ((w1.alloc oM).alloc oM).heap.size = w1.heap.size + 2 := by simp
  have s3 : (((w1.alloc oM).alloc oM).alloc oM).heap.size = w1.heap.size + 3 := by simp
  have c3 := b3.trans (b4.mono (by omega))
  have c2 := b2.trans (c3.mono (by omega))
  have c1 := b1.trans (c2.mono (by omega))
  have n1 := heap_alloc_new w1 oM
  have n2 := heap_alloc_new (w1.alloc oM) oM
  have n3 := heap_alloc_new ((w1.alloc oM).alloc oM) oM
  have n4 := heap_alloc_new (((w1.alloc oM).alloc oM).alloc oM) (oC p w1.heap.size (w1.heap.size + 1) (w1.heap.size + 2) 0)
  rw [s1] at n2
  rw [s2] at n3
  rw [s3] at n4
  have hp := h1.lt (k := p) (.inl rfl)
  have hm := h1.lt (k := m) (.inr (.inl rfl))
  exact ⟨h2.trans (c1.mono h2.size), n4, h1.below c1, ⟨(c2.block _ (by omega)).trans n1, (c3.block _ (by omega)).trans n2, (b4.block _ (by omega)).trans n3⟩, ⟨h3, h4, hp, hm⟩, by omega, by omega, by omega⟩
set_option maxHeartbeats 1000000 in
set_option maxRecDepth 100000 in
theorem kNewS (w : World) : Calls Tryz.prog 7 #[] w fun r w' => ∃ c p m ma ml me, r = .returned (.pointer (some ⟨c, 0, none⟩)) ∧ Hid (NewK w c p m ma ml me w') := by
  have hmm := @run_makeMap Tryz.prog
  go_enter Tryz.func7, Tryz.ntmps7
  go_wp2_with fail
  refine (newN w).mono ?_
  rintro e w1 ⟨p, m, rfl, HN⟩
  have HK := hide (newK_of (unhide HN))
  clear HN
  go_wp2_with fail
  go_ret
  exact ⟨w1.heap.size + 3, p, m, _, _, _, by simp, unhide HK⟩
end

section
open Go.RowKit Go.Maps
theorem sp_burst {S T : List (Part Int)} (hS : Fam ltN okN S) {x : Part Int} (hx : x ∈ S) (hT : T.map (·.ks) = x.ks.map (fun k => [k])) (a b : Int) : SP (pout x S ++ T) a b ↔ (SP S a b ∧ a ∉ x.ks) ∨ (a = b ∧ a ∈ x.ks) := by
  have ht : ∀ z ∈ T, ∃ k ∈ x.ks, z.ks = [k] := fun z hz => by
    have : z.ks ∈ T.map (·.ks) := List.mem_map.2 ⟨z, hz, rfl⟩
    rw [hT] at this
    obtain ⟨k, hk, e⟩ := List.mem_map.1 this
    exact ⟨k, hk, e.symm⟩
  have ht2 : ∀ k ∈ x.ks, ∃ z ∈ T, z.ks = [k] := fun k hk => by
    have : [k] ∈ x.ks.map (fun k => [k]) := List.mem_map.2 ⟨k, hk, rfl⟩
    rw [← hT] at this
    obtain ⟨z, hz, e⟩ := List.mem_map.1 this
    exact ⟨z, hz, e⟩
  constructor
  · rintro ⟨z, hz, h1, h2⟩
    rcases List.mem_append.1 hz with hz | hz
    · obtain ⟨hz, hq⟩ := mem_pout.1 hz
      refine .inl ⟨⟨z, hz, h1, h2⟩, fun ha => ?_⟩
      rcases hS.of hz hx with rfl | hap
      · exact hq rfl
      · exact hap.2.2 a h1 ha
    · obtain ⟨k, hk, e⟩ := ht z hz
      rw [e] at h1 h2
      obtain rfl := List.mem_singleton.1 h1
      obtain rfl := List.mem_singleton.1 h2
      exact .inr ⟨rfl, hk⟩
  · rintro (⟨⟨z, hz, h1, h2⟩, hn⟩ | ⟨rfl, ha⟩)
    · refine ⟨z, List.mem_append.2 (.inl (mem_pout.2 ⟨hz, fun e => ?_⟩)), h1, h2⟩
      rcases hS.of hz hx with rfl | hap
      · exact hn h1
      · exact hap.1 e
    · obtain ⟨z, hz, e⟩ := ht2 a ha
      exact ⟨z, List.mem_append.2 (.inr hz), by rw [e]; simp, by rw [e]; simp⟩
theorem tot_burst {S T : List (Part Int)} (hS : Fam ltN okN S) {x : Part Int} (hx : x ∈ S) (hT : T.map (·.ks) = x.ks.map (fun k => [k])) : tot (pout x S ++ T) = tot S := by
  rw [tot_append, tot_singlesN hT]
  have := tot_without hS hx
  omega
/-- One component more is joined. -/
theorem jp_comp {S1 Sj : List (Part Int)} {done : List (List Int)} {cs : List Int} (h : ∀ a b, SP Sj a b ↔ SP S1 a b ∨ ∃ ds ∈ done, a ∈ ds ∧ b ∈ ds) (hs : ∀ k ∈ cs, ∀ a, SP S1 a k ↔ a = k) (hd : ∀ ds ∈ done, ∀ k ∈ cs, k ∉ ds) (a b : Int) : JP Sj cs a b ↔ SP S1 a b ∨ ∃ ds ∈ done ++ [cs], a ∈ ds ∧ b ∈ ds := by
  have e1 : ∀ a, (∃ k ∈ cs, SP Sj a k) ↔ a ∈ cs := fun a => by
    constructor
    · rintro ⟨k, hk, hj⟩
      rcases (h a k).1 hj with h1 | ⟨ds, hds, -, h2⟩
      · rw [(hs k hk a).1 h1]; exact hk
      · exact absurd h2 (hd ds hds k hk)
    · intro ha
      exact ⟨a, ha, (h a a).2 (.inl ((hs a ha a).2 rfl))⟩
  unfold JP
  rw [e1, e1, h]
  constructor
  · rintro ((h1 | ⟨ds, hds, h1⟩) | h1)
    · exact .inl h1
    · exact .inr ⟨ds, List.mem_append.2 (.inl hds), h1⟩
    · exact .inr ⟨cs, List.mem_append.2 (.inr (List.mem_singleton.2 rfl)), h1⟩
  · rintro (h1 | ⟨ds, hds, h1⟩)
    · exact .inl (.inl h1)
    · rcases List.mem_append.1 hds with hds | hds
      · exact .inl (.inr ⟨ds, hds, h1⟩)
      · rw [List.mem_singleton.1 hds] at h1
        exact .inr h1
end

section
open Go.RowKit Go.Maps T9
/-- A list with a hole at k. -/
def holed (ys : List Int) (k : Nat) (c : Int) : List Int := ys.take k ++ c :: ys.drop k
theorem holed_len {ys : List Int} {k : Nat} {c : Int} (hk : k ≤ ys.length) : (holed ys k c).length = ys.length + 1 := by
  simp [holed]; omega
theorem holed_at {ys : List Int} {k j : Nat} {c : Int} (hj : j < k) (hk : k ≤ ys.length) : (holed ys k c)[j]? = ys[j]? := by
  unfold holed
  rw [List.getElem?_append_left (by simp; omega), List.getElem?_take, if_pos hj]
theorem holed_hole {ys : List Int} {k : Nat} {c : Int} (hk : k ≤ ys.length) : (holed ys k c)[k]? = some c := by
  unfold holed
  rw [List.getElem?_append_right (by rw [List.length_take]; omega), List.length_take, Nat.min_eq_left hk, Nat.sub_self]; rfl
theorem holed_set {ys : List Int} {k : Nat} {c x : Int} (hk : k ≤ ys.length) : (holed ys k c).set k x = holed ys k x := by
  unfold holed
  rw [List.set_append, List.length_take, Nat.min_eq_left hk, if_neg (by omega), Nat.sub_self]; rfl
theorem holed_back {ys : List Int} {k : Nat} {c y : Int} (hy : ys[k]? = some y) : (holed ys (k + 1) c).set (k + 1) y = holed ys k y := by
  have hl := (List.getElem?_eq_some_iff.1 hy).1
  rw [holed_set (by omega)]
  unfold holed
  rw [take_snoc hy, List.append_assoc, List.singleton_append, List.drop_eq_getElem_cons hl]
  rw [(List.getElem?_eq_some_iff.1 hy).2]
theorem holed_perm (ys : List Int) (k : Nat) (x : Int) : (holed ys k x).Perm (ys ++ [x]) := by
  unfold holed
  refine List.perm_middle.trans ?_
  rw [List.take_append_drop]
  exact (List.perm_append_singleton x ys).symm
theorem holed_sorted {ys : List Int} {k : Nat} {x : Int} (hs : ys.Pairwise (· ≤ ·)) (h1 : ∀ y ∈ ys.take k, y ≤ x) (h2 : ∀ y ∈ ys.drop k, x ≤ y) : (holed ys k x).Pairwise (· ≤ ·) := by
  unfold holed
  have hp := List.pairwise_append.1 (by rw [List.take_append_drop]; exact hs : (ys.take k ++ ys.drop k).Pairwise (· ≤ ·))
  refine List.pairwise_append.2 ⟨hp.1, List.pairwise_cons.2 ⟨h2, hp.2.1⟩, fun a ha b hb => ?_⟩
  rcases List.mem_cons.1 hb with e | e
  · rw [e]; exact h1 a ha
  · exact hp.2.2 a ha b e
theorem take_le {ys : List Int} {k : Nat} {x y : Int} (hs : ys.Pairwise (· ≤ ·)) (hy : ys[k]? = some y) (hx : y ≤ x) : ∀ z ∈ ys.take (k + 1), z ≤ x := fun z hz => by
  rw [take_snoc hy] at hz
  rcases List.mem_append.1 hz with q | q
  · have hp := List.pairwise_append.1 (by rw [List.take_append_drop]; exact hs : (ys.take k ++ ys.drop k).Pairwise (· ≤ ·))
    have hl := (List.getElem?_eq_some_iff.1 hy).1
    have hin : y ∈ ys.drop k := by
      rw [List.drop_eq_getElem_cons hl, (List.getElem?_eq_some_iff.1 hy).2]; exact List.mem_cons_self
    have := hp.2.2 z q y hin
    omega
  · rw [List.mem_singleton.1 q]; exact hx
def SrtAns (w : World) (ks : List Int) (e : Ending) (w' : World) : Prop := ∃ a n c ys, e = .returned (.slice a n c) ∧ ys.Perm ks ∧ ys.Pairwise (· ≤ ·) ∧ BRow w.heap.size w' (.slice a n c) ys ∧ Below w.heap.size w w'
set_option maxHeartbeats 4000000 in
set_option maxRecDepth 100000 in
theorem sortedS {w : World} {v : Value} {ks : List Int} (h : NRow w v ks) (hl : ks.length ≤ 100000) :
    Calls Tryz.prog 48 #[v] w fun e w' => Hid (SrtAns w ks e w') := by
  obtain ⟨x1, c1, e1, -⟩ := brow_shape h
  obtain ⟨n1, hn1⟩ : ∃ n1, n1 = ks.length := ⟨_, rfl⟩
  rw [← hn1] at e1
  have HN : Hid (n1 = ks.length ∧ n1 ≤ 100000) := ⟨hn1, by omega⟩
  have HC := hide h
  clear h hl hn1
  subst e1
  go_enter Tryz.func48, Tryz.ntmps48
  go_upto_region 3 with fail
  go_loopw [4, 3, 5] (fun s4 s3 s5 wr => ∃ (i : Nat) (a : Option Addr) (n c : Nat), s4 = .int .i64 (i : Nat) ∧ s3 = .slice a n c ∧ i ≤ n1 ∧ Hid (∃ ys, ys.Perm (ks.take i) ∧ ys.Pairwise (· ≤ ·) ∧ n = i ∧ BRow w.heap.size wr (.slice a n c) ys ∧ Below w.heap.size w wr)) (fun s4 _ _ _ => n1 - (intOf s4).toNat)
  case atStart => exact ⟨0, none, 0, 0, rfl, rfl, Nat.zero_le _, [], by simp, List.Pairwise.nil, rfl, ⟨rfl, .inl ⟨rfl, rfl⟩⟩, Below.refl _ _⟩
  case round =>
    obtain ⟨i, a, n, c, rfl, rfl, hi, hS⟩ := hrel
    obtain ⟨ys, hp, hs, hn, hr, hB⟩ := unhide hS
    obtain ⟨l1, l2⟩ := unhide HN
    by_cases hlt : i < n1
    · obtain ⟨x, hx⟩ : ∃ x, ks[i]? = some x := ⟨_, List.getElem?_eq_getElem (by omega)⟩
      obtain ⟨g1, hg1⟩ := brow_some (unhide HC) (by omega)
      subst hg1
      have hyl : ys.length = i := by rw [hp.length_eq, List.length_take]; omega
      have HX : Hid (∀ W, Below w.heap.size w W → W.cell? ⟨g1, i, none⟩ = some (.int .i64 x)) := fun W hW => brow_at (nrow_below (unhide HC) hW) hx
      have k1 := unhide HX wr hB
      obtain ⟨a', n', c', w5, r5, g5, t5, -⟩ := run_app8 x hr hB.size (by omega)
      have hB5 : Below w.heap.size w w5 := hB.trans (t5.below hB.size (fun b e => (hr.lt b e).1))
      have HR5 := hide r5
      obtain ⟨b', cc, eb, -⟩ := brow_shape g5
      have en' : n' = (ys ++ [x]).length := by injection eb
      obtain ⟨gy, hgy⟩ := brow_some g5 (by simp)
      subst hgy
      have HY : Hid (ys.Perm (ks.take i) ∧ ys.Pairwise (· ≤ ·) ∧ ys.length = i ∧ n' = i + 1 ∧ ks[i]? = some x) := ⟨hp, hs, hyl, by rw [en']; simp [hyl], hx⟩
      have HL : Hid (∃ d, BRow w.heap.size w5 (.slice (some ⟨gy, 0, none⟩) n' c') (holed ys n d) ∧ (∀ y ∈ ys.drop n, x < y) ∧ Below w.heap.size w w5) := ⟨x, by
        have e : holed ys n x = ys ++ [x] := by unfold holed; rw [List.take_of_length_le (by omega), List.drop_of_length_le (by omega)]
        rw [e]; exact g5, fun y hy => (by rw [List.drop_of_length_le (by omega)] at hy; cases hy), hB5⟩
      have z1 : (i : Int) < (n1 : Int) := by omega
      have HNI : Hid (n = i) := hn
      clear hp hs hn hr hB hx hyl g5 t5 hB5 r5 eb en' hS l1 l2 hi hlt
      go_upto_region 7 with (at_builtin; refine Lib.wpList_append_run _ rfl _ _ 25 25 rfl _ _ rfl rfl _ _ (unhide HR5 _) ?_)
      clear k1 HR5 cc b'
      go_loopw [5] (fun s5 W => ∃ k : Nat, s5 = .int .i64 (k : Nat) ∧ k ≤ n ∧ Hid (∃ d, BRow w.heap.size W (.slice (some ⟨gy, 0, none⟩) n' c') (holed ys k d) ∧ (∀ y ∈ ys.drop k, x < y) ∧ Below w.heap.size w W)) (fun s5 _ => (intOf s5).toNat)
      case atStart => exact ⟨n, rfl, Nat.le_refl _, HL⟩
      case round =>
        obtain ⟨k, rfl, hk, hS⟩ := hrel
        clear HL
        obtain ⟨d, hr, hgt, hB⟩ := unhide hS
        obtain ⟨hp, hs, hyl, en', hx⟩ := unhide HY
        have hni := unhide HNI
        have k1 := unhide HX wr hB
        have HEND : Hid ((∀ y ∈ ys.take k, y ≤ x) → ∀ q, (∀ o, (wr.drewN q).frozen? ⟨gy, o, none⟩ = false) ∧ (wr.drewN q).cell? ⟨gy, k, none⟩ = some (.int .i64 d) ∧ (wr.drewN q).cell? ⟨g1, i, none⟩ = some (.int .i64 x) ∧ ∃ zs, zs.Perm (ks.take (i + 1)) ∧ zs.Pairwise (· ≤ ·) ∧ n' = i + 1 ∧ BRow w.heap.size ((wr.drewN q).setCell ⟨gy, k, none⟩ (.int .i64 x)) (.slice (some ⟨gy, 0, none⟩) n' c') zs ∧ Below w.heap.size w ((wr.drewN q).setCell ⟨gy, k, none⟩ (.int .i64 x))) := fun hle q => by
          have bq : Below w.heap.size w (wr.drewN q) := hB.trans ⟨rfl, rfl, rfl, Nat.le_refl _, fun _ _ => rfl⟩
          have rq : BRow w.heap.size (wr.drewN q) (.slice (some ⟨gy, 0, none⟩) n' c') (holed ys k d) := brow_kept hr (fun _ _ => rfl)
          obtain ⟨f, r⟩ := brow_set rq x (k := k) (by omega)
          rw [holed_set (by omega)] at r
          have ht : Turned (fun b => b = gy) (wr.drewN q) ((wr.drewN q).setCell ⟨gy, k, none⟩ (.int .i64 x)) := setCells_turned (S := fun b => b = gy) gy rfl [.int .i64 x] k (wr.drewN q)
          refine ⟨f, brow_at rq (holed_hole (by omega)), unhide HX _ bq, holed ys k x, ?_, holed_sorted hs hle (fun y hy => by have := hgt y hy; omega), en', r, bq.trans (ht.below bq.size (fun b e => by rw [e]; exact (rq.lt gy rfl).1))⟩
          rw [take_snoc hx]
          exact (holed_perm ys k x).trans (hp.append_right [x])
        rcases k with _ | k0
        · obtain ⟨i1, hi1⟩ : ∃ i1, i1 = i + 1 := ⟨_, rfl⟩
          have HE := hide (unhide HEND (fun y hy => by simp at hy))
          rw [← hi1] at HE
          have zw : Hid (wrap64 ((i : Int) + 1) = (i1 : Int)) := by have := unhide HN; show wrap64 ((i : Int) + 1) = (i1 : Int); unfold wrap64; omega
          have HJ : Hid (i1 ≤ n1 ∧ n1 - i1 < n1 - i) := by have := unhide HN; have := (List.getElem?_eq_some_iff.1 hx).1; exact ⟨by omega, by omega⟩
          have HI1 := hide hi1
          have z2 : (0 : Int) < (n' : Int) := by omega
          clear hr hgt hB hp hs hyl en' hx hni HEND hi1 hk hS
          rw [show ((0 : Nat) : Int) = 0 from rfl]
          go_wp2_with fail
          go_quiet (fail)
          obtain ⟨fz, k2, k3, -⟩ := unhide HE nq
          have HE2 := hide (unhide HE nq).2.2.2
          clear HE k1
          generalize wr.drewN nq = w6 at *
          go_wp2_with fail
          (try rw [unhide zw])
          exact ⟨⟨i1, _, _, _, by first | rfl | (rw [unhide HI1]; rfl), rfl, (unhide HJ).1, HE2⟩, by have := (unhide HJ).2; simp [intOf]; omega⟩
        · obtain ⟨y, hy⟩ : ∃ y, ys[k0]? = some y := ⟨_, List.getElem?_eq_getElem (by omega)⟩
          have k2 := brow_at hr ((holed_at (c := d) (Nat.lt_succ_self k0) (by omega)).trans hy)
          have z2 : (0 : Int) < ((k0 + 1 : Nat) : Int) := by omega
          have z3 : decide ((0 : Int) < ((k0 + 1 : Nat) : Int)) = true := by rw [decide_eq_true_eq]; omega
          have z4 : (k0 : Int) < (n' : Int) := by omega
          have z5 : IntKind.i64.wrap (((k0 + 1 : Nat) : Int) - 1) = (k0 : Int) := by have := unhide HN; have := (List.getElem?_eq_some_iff.1 hx).1; rw [IntKind.wrap_i64]; omega
          have z6 : Hid (wrap64 (((k0 + 1 : Nat) : Int) - 1) = (k0 : Int)) := by have := unhide HN; have := (List.getElem?_eq_some_iff.1 hx).1; show wrap64 (((k0 + 1 : Nat) : Int) - 1) = (k0 : Int); unfold wrap64; omega
          have z7 : ((k0 + 1 : Nat) : Int) < (n' : Int) := by omega
          obtain ⟨kk, hkk⟩ : ∃ kk, kk = k0 + 1 := ⟨_, rfl⟩
          rw [← hkk] at z2 z3 z5 z6 z7 HEND ⊢
          have z8 : 0 < kk := by omega
          have z9 : decide (0 < kk) = true := by simp; omega
          have z1' : (i : Int) < (n1 : Int) := by have := unhide HN; have := (List.getElem?_eq_some_iff.1 hx).1; omega
          have HKK := hide hkk
          by_cases hxy : x < y
          · have z10 : decide (x < y) = true := by simpa using hxy
            have HD : Hid (∀ q, (∀ o, (wr.drewN q).frozen? ⟨gy, o, none⟩ = false) ∧ (wr.drewN q).cell? ⟨gy, kk, none⟩ = some (.int .i64 d) ∧ (wr.drewN q).cell? ⟨gy, k0, none⟩ = some (.int .i64 y) ∧ ∃ d, BRow w.heap.size ((wr.drewN q).setCell ⟨gy, kk, none⟩ (.int .i64 y)) (.slice (some ⟨gy, 0, none⟩) n' c') (holed ys k0 d) ∧ (∀ y ∈ ys.drop k0, x < y) ∧ Below w.heap.size w ((wr.drewN q).setCell ⟨gy, kk, none⟩ (.int .i64 y))) := fun q => by
              have bq : Below w.heap.size w (wr.drewN q) := hB.trans ⟨rfl, rfl, rfl, Nat.le_refl _, fun _ _ => rfl⟩
              have rq : BRow w.heap.size (wr.drewN q) (.slice (some ⟨gy, 0, none⟩) n' c') (holed ys (k0 + 1) d) := brow_kept hr (fun _ _ => rfl)
              obtain ⟨f, r⟩ := brow_set rq y (k := k0 + 1) (by omega)
              rw [holed_back hy] at r
              have ht : Turned (fun b => b = gy) (wr.drewN q) ((wr.drewN q).setCell ⟨gy, k0 + 1, none⟩ (.int .i64 y)) := setCells_turned (S := fun b => b = gy) gy rfl [.int .i64 y] (k0 + 1) (wr.drewN q)
              refine ⟨f, by rw [hkk]; exact brow_at rq (holed_hole (by omega)), brow_at rq ((holed_at (c := d) (Nat.lt_succ_self k0) (by omega)).trans hy), y, by rw [hkk]; exact r, fun z hz => ?_, by rw [hkk]; exact bq.trans (ht.below bq.size (fun b e => by rw [e]; exact (rq.lt gy rfl).1))⟩
              rw [List.drop_eq_getElem_cons (List.getElem?_eq_some_iff.1 hy).1, (List.getElem?_eq_some_iff.1 hy).2] at hz
              rcases List.mem_cons.1 hz with e | e
              · rw [e]; exact hxy
              · exact hgt z e
            have HM : Hid (k0 ≤ n ∧ k0 < kk) := ⟨by omega, by omega⟩
            clear hr hgt hB hp hs hyl en' hx hni HEND hk hS hy hkk
            go_wp2_with fail
            go_quiet (fail)
            obtain ⟨fz, k3, k4, -⟩ := unhide HD nq
            have HD2 := hide (unhide HD nq).2.2.2
            clear HD k1 k2
            generalize wr.drewN nq = w6 at *
            go_wp2_with fail
            (try rw [unhide z6])
            exact ⟨⟨k0, rfl, (unhide HM).1, HD2⟩, by have := (unhide HM).2; simp [intOf]; omega⟩
          · have z10 : decide (x < y) = false := by simpa using hxy
            obtain ⟨i1, hi1⟩ : ∃ i1, i1 = i + 1 := ⟨_, rfl⟩
            have HE := hide (unhide HEND (by rw [hkk]; exact take_le hs hy (by omega)))
            rw [← hi1] at HE
            have zw : Hid (wrap64 ((i : Int) + 1) = (i1 : Int)) := by have := unhide HN; show wrap64 ((i : Int) + 1) = (i1 : Int); unfold wrap64; omega
            have HJ : Hid (i1 ≤ n1 ∧ n1 - i1 < n1 - i) := by have := unhide HN; have := (List.getElem?_eq_some_iff.1 hx).1; exact ⟨by omega, by omega⟩
            have HI1 := hide hi1
            clear hr hgt hB hp hs hyl en' hx hni HEND hi1 hk hS hy hkk
            go_wp2_with fail
            go_quiet (fail)
            obtain ⟨fz, k3, k4, -⟩ := unhide HE nq
            have HE2 := hide (unhide HE nq).2.2.2
            clear HE k1 k2
            generalize wr.drewN nq = w6 at *
            go_wp2_with fail
            (try rw [unhide zw])
            exact ⟨⟨i1, _, _, _, by first | rfl | (rw [unhide HI1]; rfl), rfl, (unhide HJ).1, HE2⟩, by have := (unhide HJ).2; simp [intOf]; omega⟩
    · have z1 : ¬ (i : Int) < (n1 : Int) := by omega
      have HE : Hid (ys.Perm ks ∧ ys.Pairwise (· ≤ ·) ∧ BRow w.heap.size wr (.slice a n c) ys ∧ Below w.heap.size w wr) := ⟨by rw [List.take_of_length_le (by omega)] at hp; exact hp, hs, hr, hB⟩
      clear hp hs hn hr hB hS l1 l2 hi hlt
      go_wp2_with fail
      go_ret
      exact ⟨a, n, c, ys, rfl, unhide HE⟩
end

section
open Go.RowKit Go.Maps T9
/-- A graph of the reference, in a box. -/
def oGr (vv ev : Value) (rd wr : Int) : Obj := .cells #[vv, ev, .int .i64 rd, .int .i64 wr] 28 (0, 0)
theorem cellsGr {w : World} {b : Nat} {vv ev : Value} {rd wr : Int} (h : w.heap[b]? = some (oGr vv ev rd wr)) : w.cell? ⟨b, 0, none⟩ = some vv ∧ w.cell? ⟨b, 1, none⟩ = some ev ∧ w.cell? ⟨b, 2, none⟩ = some (.int .i64 rd) ∧ w.cell? ⟨b, 3, none⟩ = some (.int .i64 wr) ∧ ∀ o, w.frozen? ⟨b, o, none⟩ = false :=
  ⟨(cell_of_row _ _ 0 _ _ (0, 0) h).trans rfl, (cell_of_row _ _ 1 _ _ (0, 0) h).trans rfl, (cell_of_row _ _ 2 _ _ (0, 0) h).trans rfl, (cell_of_row _ _ 3 _ _ (0, 0) h).trans rfl, fun o => frozen_of_row _ _ o _ _ h⟩
/-- The place of a number among these, or -1. -/
def placeOf (V : List Int) (x : Int) : Int := if x ∈ V then (V.idxOf x : Nat) else -1
theorem placeOf_some {V : List Int} {x : Int} {k : Nat} (hs : V.Pairwise (· < ·)) (h : V[k]? = some x) : placeOf V x = (k : Int) := by
  unfold placeOf
  rw [if_pos (List.mem_of_getElem? h)]
  have : V.idxOf x = k := by
    obtain ⟨l1, e1⟩ := List.getElem?_eq_some_iff.1 h
    obtain ⟨l2, e2⟩ := List.getElem?_eq_some_iff.1 (idx_some (List.mem_of_getElem? h))
    have hne := List.pairwise_iff_getElem.1 hs
    rcases Nat.lt_trichotomy (V.idxOf x) k with q | q | q
    · have := hne _ k l2 l1 q; rw [e1, e2] at this; simp at this
    · exact q
    · have := hne k _ l1 l2 q; rw [e1, e2] at this; simp at this
  rw [this]
/-- What the search has left. -/
def Lft (V : List Int) (x : Int) (lo hi : Nat) : Prop := lo ≤ hi ∧ hi ≤ V.length ∧ (∀ (j : Nat) (y : Int), j < lo → V[j]? = some y → y < x) ∧ ∀ (j : Nat) (y : Int), hi ≤ j → V[j]? = some y → x ≤ y
theorem lft_lo {V : List Int} {x : Int} {lo hi m : Nat} {y : Int} (hs : V.Pairwise (· < ·)) (h : Lft V x lo hi) (hy : V[m]? = some y) (hm : m < hi) (hl : y < x) : Lft V x (m + 1) hi := by
  refine ⟨by omega, h.2.1, fun j z hj hz => ?_, h.2.2.2⟩
  by_cases e : j = m
  · subst e; rw [hy] at hz; injection hz with hz; omega
  · obtain ⟨l1, e1⟩ := List.getElem?_eq_some_iff.1 hy
    obtain ⟨l2, e2⟩ := List.getElem?_eq_some_iff.1 hz
    have := List.pairwise_iff_getElem.1 hs j m l2 l1 (by omega)
    rw [e1, e2] at this; omega
theorem lft_hi {V : List Int} {x : Int} {lo hi m : Nat} {y : Int} (hs : V.Pairwise (· < ·)) (h : Lft V x lo hi) (hy : V[m]? = some y) (hm : lo ≤ m) (hl : ¬ y < x) : Lft V x lo m := by
  have h0 := (List.getElem?_eq_some_iff.1 hy).1
  refine ⟨hm, by omega, h.2.2.1, fun j z hj hz => ?_⟩
  by_cases e : j = m
  · subst e; rw [hy] at hz; injection hz with hz; omega
  · obtain ⟨l1, e1⟩ := List.getElem?_eq_some_iff.1 hy
    obtain ⟨l2, e2⟩ := List.getElem?_eq_some_iff.1 hz
    have := List.pairwise_iff_getElem.1 hs m j l1 l2 (by omega)
    rw [e1, e2] at this; omega
theorem lft_none {V : List Int} {x : Int} {k : Nat} (h : Lft V x k k) (hk : V[k]? ≠ some x) (hs : V.Pairwise (· < ·)) : placeOf V x = -1 := by
  unfold placeOf
  rw [if_neg]
  intro hx
  obtain ⟨j, hj⟩ := List.mem_iff_getElem?.1 hx
  rcases Nat.lt_trichotomy j k with q | q | q
  · have := h.2.2.1 j x q hj; omega
  · subst q; exact hk hj
  · obtain ⟨l2, e2⟩ := List.getElem?_eq_some_iff.1 hj
    obtain ⟨y, hy⟩ : ∃ y, V[k]? = some y := ⟨_, List.getElem?_eq_getElem (by omega)⟩
    have h3 := h.2.2.2 k y (Nat.le_refl _) hy
    obtain ⟨l1, e1⟩ := List.getElem?_eq_some_iff.1 hy
    have := List.pairwise_iff_getElem.1 hs k j l1 l2 q
    rw [e1, e2] at this; omega
theorem mid_wrap {lo hi : Nat} (h : lo + hi ≤ 1000000) : wrap64 ((lo : Int) + (hi : Int)) = (lo : Int) + (hi : Int) ∧ wrap64 (((lo : Int) + (hi : Int)).tdiv 2) = (((lo + hi) / 2 : Nat) : Int) := by
  constructor
  · unfold wrap64; omega
  · rw [Int.tdiv_eq_ediv_of_nonneg (by omega)]; unfold wrap64; omega
set_option maxHeartbeats 4000000 in
set_option maxRecDepth 100000 in
theorem placeS {w : World} {vv ev : Value} {rd wr x : Int} {V : List Int} (h : NRow w vv V) (hs : V.Pairwise (· < ·)) (hl : V.length ≤ 100000) :
    Calls Tryz.prog 47 #[.agg #[vv, ev, .int .i64 rd, .int .i64 wr], .int .i64 x] w fun e w' => e = .returned (.int .i64 (placeOf V x)) ∧ Below w.heap.size w w' := by
  have hb := below_new w (oGr vv ev rd wr)
  have h1 := nrow_below h hb
  obtain ⟨c0, -, -, -, -⟩ := cellsGr (heap_alloc_new w (oGr vv ev rd wr))
  have HB := hide hb
  obtain ⟨a, c, hvv, -⟩ := brow_shape h1
  obtain ⟨n, hn⟩ : ∃ n, n = V.length := ⟨_, rfl⟩
  rw [← hn] at hvv
  have HC := hide h1
  have HN : Hid (n = V.length ∧ n ≤ 100000 ∧ V.Pairwise (· < ·)) := ⟨hn, by omega, hs⟩
  generalize hrr : placeOf V x = rr
  have HRR := hide hrr
  clear h h1 hb hl hn hs hrr
  subst hvv
  go_enter Tryz.func47, Tryz.ntmps47
  go_upto_region 1 with fail
  change Code.wp _ _ _ _ (w.alloc (oGr (.slice a n c) ev rd wr))
  generalize w.alloc (oGr (.slice a n c) ev rd wr) = wb at *
  generalize hbb : w.heap.size = bb at *
  go_quiet (fail)
  have HBB := hide hbb
  have HB2 : Hid (Below bb w (wb.drewN nq) ∧ NRow (wb.drewN nq) (.slice a n c) V ∧ (wb.drewN nq).cell? ⟨bb, 0, none⟩ = some (.slice a n c)) := ⟨(unhide HB).trans ⟨rfl, rfl, rfl, Nat.le_refl _, fun _ _ => rfl⟩, nrow_kept (unhide HC) (fun _ _ => rfl), c0⟩
  clear HB HC c0 hbb
  generalize wb.drewN nq = w1 at *
  have c0 := (unhide HB2).2.2
  go_upto_region 2 with fail
  go_loopw [5, 6, 7] (fun s5 s6 s7 wr => ∃ lo hi : Nat, s5 = .int .i64 (lo : Nat) ∧ s6 = .int .i64 (hi : Nat) ∧ wr = w1 ∧ Hid (Lft V x lo hi)) (fun s5 s6 _ _ => (intOf s6).toNat - (intOf s5).toNat)
  case atStart => exact ⟨0, n, rfl, rfl, rfl, Nat.zero_le _, by rw [(unhide HN).1]; exact Nat.le_refl _, fun j _ hj => absurd hj (Nat.not_lt_zero _), fun j y hj hy => by have := (List.getElem?_eq_some_iff.1 hy).1; have := (unhide HN).1; omega⟩
  case round =>
    obtain ⟨lo, hi, rfl, rfl, rfl, hS⟩ := hrel
    obtain ⟨l1, l2, l3⟩ := unhide HN
    obtain ⟨s1, s2, -, -⟩ := unhide hS
    by_cases hlt : lo < hi
    · obtain ⟨m, hm⟩ : ∃ m, m = (lo + hi) / 2 := ⟨_, rfl⟩
      obtain ⟨y, hy⟩ : ∃ y, V[m]? = some y := ⟨_, List.getElem?_eq_getElem (by omega)⟩
      obtain ⟨g, hg⟩ := brow_some (unhide HB2).2.1 (by omega)
      subst hg
      have k1 := brow_at (unhide HB2).2.1 hy
      have z1 : (lo : Int) < (hi : Int) := by omega
      have z2 : (m : Int) < (n : Int) := by omega
      have z4 : ((lo : Int) + (hi : Int)) / 2 = (m : Int) := by omega
      obtain ⟨m1, hm1⟩ : ∃ m1, m1 = m + 1 := ⟨_, rfl⟩
      have zw : Hid (wrap64 ((m : Int) + 1) = (m1 : Int)) := by show wrap64 ((m : Int) + 1) = (m1 : Int); unfold wrap64; omega
      have HM1 := hide hm1
      have hmid := mid_wrap (lo := lo) (hi := hi) (by omega)
      rw [← hm] at hmid
      by_cases hyx : y < x
      · have HJ : Hid (Lft V x m1 hi ∧ hi - m1 < hi - lo) := ⟨by rw [hm1]; exact lft_lo l3 (unhide hS) hy (by omega) hyx, by omega⟩
        obtain ⟨z3, z5⟩ := hmid
        have HZ5 := hide z5
        clear l1 l2 l3 s1 s2 hm hy hlt hS hm1
        go_wp2_with fail
        clear z3 z5
        (try simp only [unhide HZ5])
        (try rw [unhide zw])
        exact ⟨⟨m1, hi, by first | rfl | (rw [unhide HM1]; rfl), rfl, trivial, (unhide HJ).1⟩, by have := (unhide HJ).2; simp [intOf]; omega⟩
      · have HJ : Hid (Lft V x lo m ∧ m - lo < hi - lo) := ⟨lft_hi l3 (unhide hS) hy (by omega) hyx, by omega⟩
        obtain ⟨z3, z5⟩ := hmid
        have HZ5 := hide z5
        clear l1 l2 l3 s1 s2 hm hy hlt hS hm1
        go_wp2_with fail
        clear z3 z5
        (try simp only [unhide HZ5])
        exact ⟨⟨lo, m, rfl, rfl, trivial, (unhide HJ).1⟩, by have := (unhide HJ).2; simp [intOf]; omega⟩
    · obtain rfl : hi = lo := by omega
      have z1 : ¬ (hi : Int) < (hi : Int) := by omega
      have HL := hide (unhide hS)
      by_cases hn : hi < n
      · obtain ⟨y, hy⟩ : ∃ y, V[hi]? = some y := ⟨_, List.getElem?_eq_getElem (by omega)⟩
        obtain ⟨g, hg⟩ := brow_some (unhide HB2).2.1 (by omega)
        subst hg
        have k1 := brow_at (unhide HB2).2.1 hy
        have z2 : (hi : Int) < (n : Int) := by omega
        by_cases hyx : y = x
        · subst hyx
          have HG : Hid (rr = (hi : Int)) := by
            show rr = (hi : Int)
            rw [← unhide HRR]; exact placeOf_some l3 hy
          clear l1 l2 l3 s1 s2 hy hlt hS hn
          go_wp2_with fail
          go_ret
          exact ⟨by rw [unhide HG]; rfl, by rw [unhide HBB]; exact (unhide HB2).1⟩
        · have z3 : (y == x) = false := by simpa using hyx
          have HG : Hid (rr = -1) := by
            show rr = -1
            rw [← unhide HRR]; exact lft_none (unhide hS) (by rw [hy]; exact fun e => hyx (by injection e)) l3
          clear l1 l2 l3 s1 s2 hy hlt hS hn hyx
          go_wp2_with fail
          go_ret
          exact ⟨by rw [unhide HG]; rfl, by rw [unhide HBB]; exact (unhide HB2).1⟩
      · have z2 : ¬ (hi : Int) < (n : Int) := by omega
        have HG : Hid (rr = -1) := by
          show rr = -1
          rw [← unhide HRR]; exact lft_none (unhide hS) (by rw [List.getElem?_eq_none (by omega)]; exact fun e => by cases e) l3
        clear l1 l2 l3 s1 s2 hlt hS hn
        go_wp2_with fail
        go_ret
        exact ⟨by rw [unhide HG]; rfl, by rw [unhide HBB]; exact (unhide HB2).1⟩
end

section
open Go.RowKit Go.Maps T9
/-- The code of two lists. -/
def ErrA (ks : List Int) (l : List (Int × Int)) (c : Int) : Prop := (¬ ks.Nodup ∧ c = 2) ∨ (ks.Nodup ∧ ¬ okArcs ks l ∧ c = 5) ∨ (ks.Nodup ∧ okArcs ks l ∧ c = 0)
def ErrAns (w : World) (ks : List Int) (l : List (Int × Int)) (e : Ending) (w' : World) : Prop := ∃ c, e = .returned (.int .i64 c) ∧ ErrA ks l c ∧ Below w.heap.size w w'
theorem placeOf_neg {V : List Int} {x : Int} : placeOf V x < 0 ↔ x ∉ V := by
  unfold placeOf
  by_cases h : x ∈ V
  · rw [if_pos h]; constructor
    · intro q; omega
    · intro q; exact absurd h q
  · rw [if_neg h]; constructor
    · intro _; exact h
    · intro _; omega
theorem arow_below {w w' : World} {v : Value} {l : List (Int × Int)} (h : ARow w v l) (hb : Below w.heap.size w w') : ARow w' v l := arow_kept h hb
/-- The cells of a graph's box and of an arc. -/
def Seen (gb g2 i : Nat) (vv ev : Value) (u x : Int) (y : World) : Prop := (y.cell? ⟨gb, 0, none⟩ = some vv ∧ y.cell? ⟨gb, 1, none⟩ = some ev ∧ y.cell? ⟨gb, 2, none⟩ = some (.int .i64 0) ∧ y.cell? ⟨gb, 3, none⟩ = some (.int .i64 0)) ∧ y.cell? ⟨g2, i * 2, none⟩ = some (.int .i64 u) ∧ y.cell? ⟨g2, i * 2 + 1, none⟩ = some (.int .i64 x)
end

section
open Go.RowKit Go.Maps T9
theorem addr_off (b off j : Nat) : (⟨b, off, none⟩ : Addr).add j = ⟨b, off + j, none⟩ := by
  unfold Addr.add
  split <;> simp_all
/-- A row of lists' heads. -/
abbrev HRow (B : Nat) (w : World) (v : Value) (vs : List Value) : Prop := w.ownsRow B 25 1 v vs.length vs
theorem hrow_kept {B : Nat} {w w' : World} {v : Value} {vs : List Value} (h : HRow B w v vs) (hk : ∀ b, v.ownBlock = some b → w'.heap[b]? = w.heap[b]?) : HRow B w' v vs := by
  refine ⟨h.1, ?_⟩
  rcases h.2 with hn | ⟨g, cap, cur, e, hb, hgg, rest⟩
  · exact .inl hn
  · exact .inr ⟨g, cap, cur, e, hb, (hk g (by rw [e]; rfl)).trans hgg, rest⟩
theorem hrow_shape {B : Nat} {w : World} {v : Value} {vs : List Value} (h : HRow B w v vs) : ∃ a c, v = .slice a vs.length c ∧ vs.length ≤ c := by
  rcases h.2 with ⟨e, h0⟩ | ⟨g', cap, cur, e, -, -, hc, -⟩
  · exact ⟨none, 0, by rw [e, h0], by omega⟩
  · exact ⟨_, _, e, hc⟩
theorem hrow_some {B : Nat} {w : World} {a : Option Addr} {n c : Nat} {vs : List Value} (h : HRow B w (.slice a n c) vs) (h0 : 0 < vs.length) : ∃ g, a = some ⟨g, 0, none⟩ := by
  rcases h.2 with ⟨e, h1⟩ | ⟨g', cap, cur, e, -⟩
  · omega
  · injection e with e1; exact ⟨g', e1⟩
theorem hrow_at {B : Nat} {w : World} {g n c : Nat} {vs : List Value} (h : HRow B w (.slice (some ⟨g, 0, none⟩) n c) vs) {j : Nat} {e : Value} (hj : vs[j]? = some e) : w.cell? ⟨g, j, none⟩ = some e := by
  have := h.cells (g := g) rfl j e hj
  rwa [addr_off, Nat.zero_add] at this
theorem hrow_low {B B' : Nat} {w : World} {v : Value} {vs : List Value} (h : HRow B' w v vs) (hb : B ≤ B') : HRow B w v vs := ⟨h.1, h.2.imp id (fun ⟨g, cap, cur, e, q, r⟩ => ⟨g, cap, cur, e, Nat.le_trans hb q, r⟩)⟩
theorem run_append_nilH (w : World) (base : Option Addr) (l c : Nat) (hlc : l ≤ c) (ty : TypeId) : (Builtin.append_ #[71, 71] ty #[.slice base l c, .slice none 0 0]).run Tryz.prog w = .ok (.slice base l c) w := by
  obtain ⟨i, hi, hz, hs, hb⟩ := info_parts infoIS
  cases base <;> simp [Builtin.append_, run_underlying Tryz.underlying71, sizeOf, typeInfo, hi, Builtin.lenOf, Builtin.firstCells, hlc, storeCells]
/-- Heads of lists, appended from wherever they lie. -/
theorem run_appH {B : Nat} {w : World} {v : Value} {l l2 : List Value} {ad : Addr} {c : Nat} (h : HRow B w v l) (hB : B ≤ w.heap.size) (hcell : ∀ j u, l2[j]? = some u → w.cell? (ad.add j) = some u) (h1 : ∀ u ∈ l2, u.oneCell' = true) (hl : l.length + l2.length ≤ 1000000) :
    ∃ a' n' c' w', (∀ ty, (Builtin.append_ #[71, 71] ty #[v, .slice (some ad) l2.length c]).run Tryz.prog w = .ok (.slice a' n' c') w') ∧ HRow B w' (.slice a' n' c') (l ++ l2) ∧ Turned (fun b => v.ownBlock = some b) w w' ∧ ∀ b, (Value.slice a' n' c').ownBlock = some b → v.ownBlock = some b ∨ w.heap.size ≤ b := by
  obtain ⟨i, hi, hz, hsz, hb⟩ := info_parts infoIS
  obtain ⟨v', w', hr, g1, g2, -, g5⟩ := run_append_own_at (P := Tryz.prog) w B 71 0 25 i _ 1 24 Tryz.underlying71 hi hz hsz hb rfl (by omega) v l.length l h ad l2.length c l2 (by omega) hcell h1 (by unfold maxLen; omega) (by omega) hB
  have e2 : l.length + l2.length = (l ++ l2).length := by simp
  rw [e2] at g1
  have g1' : HRow B w' v' (l ++ l2) := g1
  obtain ⟨a', c', e, -⟩ := hrow_shape g1'
  subst e
  refine ⟨a', _, c', w', fun ty => hr, g1', ⟨g2.os, g2.tape, g2.output, g2.size, fun k hk hn => g2.block k hk (fun e => hn e.symm)⟩, fun b eb => ?_⟩
  rcases g5 with q | q
  · exact .inl (by rw [← q]; exact eb)
  · have eb2 := Option.some.inj (q.symm.trans eb); exact .inr (by omega)
end

end Go.Proofs.YtkmhcgmmbkchaaaGreat
