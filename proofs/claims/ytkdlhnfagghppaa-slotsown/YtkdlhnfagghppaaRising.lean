/- The reference's Rising. -/
import Derived.Test.YtkdlhnfagghppaaRel
import Derived.Test.YtkdlhnfagghppaaEx
import Derived.Deep.RegionHeld3
namespace Go.Proofs.Ytkdlhnfagghppaa
open Go.RowKit Go.Maps

/-- What stands at the first k places, in their order. -/
def ris (ps : List (Int × Bool)) : Nat → List (Int × Int)
  | 0 => []
  | k + 1 => match ps[k]? with
    | some (a, true) => ris ps k ++ [((k : Int) + 1, a)]
    | _ => ris ps k

theorem ris_in {ps : List (Int × Bool)} {k : Nat} {a : Int} (h : ps[k]? = some (a, true)) : ris ps (k + 1) = ris ps k ++ [((k : Int) + 1, a)] := by
  simp only [ris, h]
theorem ris_out {ps : List (Int × Bool)} {k : Nat} (h : ∀ a, ps[k]? ≠ some (a, true)) : ris ps (k + 1) = ris ps k := by
  cases hk : ps[k]? with
  | none => simp [ris, hk]
  | some p =>
    obtain ⟨a, b⟩ := p
    cases b with
    | true => exact absurd hk (h a)
    | false => simp [ris, hk]
theorem ris_gap {ps : List (Int × Bool)} {p : Nat} : ∀ q, p ≤ q → (∀ (j : Nat) b, p ≤ j → j < q → ps[j]? ≠ some (b, true)) → ris ps q = ris ps p
  | 0, h, _ => by rw [show p = 0 by omega]
  | q + 1, h, hn => by
    rcases Nat.lt_or_ge q p with hl | hl
    · rw [show p = q + 1 by omega]
    · rw [ris_out (fun a => hn q a hl (by omega)), ris_gap q hl (fun j b h1 h2 => hn j b h1 (by omega))]
theorem ris_length (ps : List (Int × Bool)) : ∀ k, (ris ps k).length ≤ k
  | 0 => by simp [ris]
  | k + 1 => by
    simp only [ris]
    have := ris_length ps k
    split
    · simp; omega
    · omega

/-- The next one behind the first p places. -/
theorem next_gap {ps : List (Int × Bool)} {p : Nat} {r : Int} (h : NextIs ps ((p : Int) + 1) r) : (r = 0 ∧ (p ≤ ps.length → ris ps ps.length = ris ps p)) ∨ ∃ (q : Nat) (a : Int), r = (q : Int) + 1 ∧ p ≤ q ∧ ps[q]? = some (a, true) ∧ ris ps q = ris ps p := by
  rcases h with ⟨rfl, hf⟩ | ⟨q, a, rfl, h1, h2, h3⟩
  · exact .inl ⟨rfl, fun hp => ris_gap _ hp (fun j b h1 h2 e => by have := hf j b e; omega)⟩
  · exact .inr ⟨q, a, rfl, by omega, h1, ris_gap q (by omega) (fun j b h4 h5 e => by have := h3 j b h5 e; omega)⟩

def meas (N : Nat) (v : Value) : Nat := if intOf v = 0 then 0 else N + 2 - (intOf v).toNat

theorem meas_next {ps : List (Int × Bool)} {q N : Nat} {r : Int} (h : NextIs ps ((q : Int) + 1 + 1) r) (hq : q < N) (hN : N = ps.length := by rfl) : meas N (.int .i64 r) < meas N (.int .i64 ((q : Int) + 1)) := by
  show (if r = 0 then 0 else N + 2 - r.toNat) < (if (q : Int) + 1 = 0 then 0 else N + 2 - ((q : Int) + 1).toNat)
  rcases h with ⟨rfl, -⟩ | ⟨i, a, rfl, h1, h2, -⟩
  · rw [if_pos rfl, if_neg (by omega)]; omega
  · have := lt_of_at h1
    rw [if_neg (by omega), if_neg (by omega)]; omega

set_option maxHeartbeats 2000000 in
set_option maxRecDepth 100000 in
theorem refRising {v : Value} {ps : List (Int × Bool)} {its : List (Int × Int)} (most : Int) (w : World) (h : w.ownsRow 0 47 2 v its.length (enc .i64 its)) (hn : its.length ≤ 1000000) (hrel : Rel ps its) (hp6 : ps.length ≤ 65536) :
    Calls Try.prog 19 #[.agg #[.int .i64 most, v]] w fun e w' => ∃ v', e = .returned v' ∧ Hid (w'.ownsRow w.heap.size 47 2 v' (ris ps ps.length).length (enc .i64 (ris ps ps.length)) ∧ Below w.heap.size w w') := by
  have hb : Below w.heap.size w (w.alloc (.cells #[.int .i64 most, v] 27)) := (Below.refl _ _).alloc (Nat.le_refl _) _
  obtain ⟨b0, b1, -⟩ := box2 w (.int .i64 most) v 27
  have h2 := items_below h hb
  have HB := hide hb
  have hs : w.heap.size < (w.alloc (.cells #[.int .i64 most, v] 27)).heap.size := by simp
  have HS : Hid (w.heap.size < (w.alloc (.cells #[.int .i64 most, v] 27)).heap.size) := hs
  -- the two calls, at whatever world
  have CN : Hid (∀ (k : Int) (u : World), Below (w.alloc (.cells #[.int .i64 most, v] 27)).heap.size (w.alloc (.cells #[.int .i64 most, v] 27)) u → Calls Try.prog 37 #[.agg #[.int .i64 most, v], .int .i64 k] u fun e w' => ∃ r, e = .returned (.int .i64 r) ∧ Hid (NextIs ps k r ∧ Below u.heap.size u w')) := fun k u hu => by
    obtain ⟨r, hr⟩ := next_ex ps k
    refine (refNext most k u (items_below h2 hu) hn (rel_pos hrel)).mono ?_
    rintro e w' ⟨r', he, hh⟩
    exact ⟨r, by rw [he, rel_next hrel hr hh.out.1], hr, hh.out.2⟩
  have CF : Hid (∀ (q : Nat) (a : Int), ps[q]? = some (a, true) → ∃ (j g c : Nat), v = .slice (some ⟨g, 0, none⟩) its.length c ∧ j < its.length ∧ (∀ u', Below (w.alloc (.cells #[.int .i64 most, v] 27)).heap.size (w.alloc (.cells #[.int .i64 most, v] 27)) u' → u'.cell? ⟨g, j * 2, none⟩ = some (.int .i64 ((q : Int) + 1)) ∧ u'.cell? ⟨g, j * 2 + 1, none⟩ = some (.int .i64 a)) ∧
      ∀ (vo : Value) (u : World), Below (w.alloc (.cells #[.int .i64 most, v] 27)).heap.size (w.alloc (.cells #[.int .i64 most, v] 27)) u → u.ownsRow (w.alloc (.cells #[.int .i64 most, v] 27)).heap.size 47 2 vo (ris ps q).length (enc .i64 (ris ps q)) →
      Calls Try.prog 33 #[.agg #[.int .i64 most, v], .int .i64 ((q : Int) + 1)] u fun e w' => e = .returned (.int .i64 j) ∧ Below (w.alloc (.cells #[.int .i64 most, v] 27)).heap.size (w.alloc (.cells #[.int .i64 most, v] 27)) w' ∧
        ∃ a5 c5 w5, (Builtin.append_ #[25, 25] 25 #[vo, .slice (some ⟨w'.heap.size, 0, none⟩) 1 1]).run Try.prog (w'.alloc (.cells #[.int .i64 ((q : Int) + 1), .int .i64 a] 47)) = .ok (.slice a5 ((ris ps q).length + 1) c5) w5 ∧
          w5.ownsRow (w.alloc (.cells #[.int .i64 most, v] 27)).heap.size 47 2 (.slice a5 ((ris ps q).length + 1) c5) ((ris ps q).length + 1) (enc .i64 (ris ps (q + 1))) ∧ Below (w.alloc (.cells #[.int .i64 most, v] 27)).heap.size (w.alloc (.cells #[.int .i64 most, v] 27)) w5) := fun q a hq => by
    obtain ⟨j, j1, j2, j3, j4⟩ := rel_index hrel hq
    obtain ⟨g, c, hvg⟩ := item_block h (by omega)
    refine ⟨j, g, c, hvg, j1, fun u' hu' => ?_, fun vo u hu ho => ?_⟩
    · have hr := items_below h2 hu'
      rw [hvg] at hr
      have := owns_cells hr j j1
      rw [j2, j3] at this
      exact this
    · refine (refFind most _ u (items_below h2 hu) hn).mono ?_
      rintro e w' ⟨r, he, hh⟩
      obtain ⟨f, b⟩ := hh.out
      have hu' := hu.trans (b.mono hu.size)
      have ho' : w'.ownsRow (w.alloc (.cells #[.int .i64 most, v] 27)).heap.size 47 2 vo (ris ps q).length (enc .i64 (ris ps q)) := row_low ho (Nat.le_refl _) (fun k hk => b.block k (ho.lt k hk).2)
      obtain ⟨v2, w5, p1, p2, p3⟩ := snocRow ho' (by have := ris_length ps q; have := lt_of_at hq; omega) hu'.size ((q : Int) + 1) a
      rw [← ris_in hq] at p2
      obtain ⟨a5, c5, rfl⟩ := item_shape (items_kept p2 (fun _ _ => rfl))
      exact ⟨by rw [he, at_one f j1 j2 j4], hu', a5, c5, w5, p1, p2, hu'.trans p3⟩
  have HIT := hide hp6
  obtain ⟨a, c, rfl⟩ := item_shape h
  generalize hLL : its.length = L at *
  clear h hn hrel hp6 hb h2 hs hLL
  go_enter Try.func19, Try.ntmps19
  go_upto_region 1 with fail
  generalize hW1 : (w.alloc (.cells #[.int .i64 most, .slice a L c] 27)) = w1 at *
  clear hW1
  have CN1 := hide (unhide CN 1 w1 (Below.refl _ _))
  go_wp2_with fail
  refine (unhide CN1).mono ?_
  rintro e u1 ⟨r, rfl, h1⟩
  have HN1 := h1
  clear CN1 h1
  go_wp2_with fail
  go_loopw [3, 4] (fun s3 s4 wr => ∃ (p : Nat) (r : Int) (a3 : Option Addr) (n3 c3 : Nat), s3 = .slice a3 n3 c3 ∧ s4 = .int .i64 r ∧ Hid (n3 = (ris ps p).length ∧ p ≤ ps.length ∧ NextIs ps ((p : Int) + 1) r ∧ wr.ownsRow w1.heap.size 47 2 (.slice a3 n3 c3) n3 (enc .i64 (ris ps p)) ∧ Below w1.heap.size w1 wr)) (fun _ s4 _ => meas ps.length s4)
  case atStart => exact ⟨0, r, none, 0, 0, rfl, rfl, rfl, Nat.zero_le _, (unhide HN1).1, ⟨rfl, .inl ⟨rfl, rfl⟩⟩, (unhide HN1).2⟩
  case round =>
    obtain ⟨p, r, a3, n3, c3, rfl, rfl, hh⟩ := hrel
    obtain ⟨i0, i1, i2, i3, i4⟩ := unhide hh
    rcases next_gap i2 with ⟨rfl, hg⟩ | ⟨q, x, rfl, hpq, hq, hg⟩
    · have HE : Hid (wr.ownsRow w.heap.size 47 2 (.slice a3 n3 c3) (ris ps ps.length).length (enc .i64 (ris ps ps.length)) ∧ Below w.heap.size w wr) := by
        rw [hg i1, ← i0]
        exact ⟨row_low i3 (Nat.le_of_lt (unhide HS)) (fun _ _ => rfl), (unhide HB).trans (i4.mono (Nat.le_of_lt (unhide HS)))⟩
      clear hh i0 i1 i2 i3 i4 hg
      go_wp2_with fail
      go_ret
      exact ⟨_, rfl, unhide HE⟩
    · have hql := lt_of_at hq
      rw [← hg] at i0 i3
      obtain ⟨j, g, c', e1, e2, e3, e4⟩ := unhide CF q x hq
      simp only [Value.slice.injEq, true_and] at e1
      obtain ⟨rfl, rfl⟩ := e1
      have hl : (ris ps (q + 1)).length = (ris ps q).length + 1 := by rw [ris_in hq]; simp
      have HSX : Hid (∀ u', Below w1.heap.size w1 u' → (u'.cell? ⟨w.heap.size, 0, none⟩ = some (.int .i64 most) ∧ u'.cell? ⟨w.heap.size, 1, none⟩ = some (.slice (some ⟨g, 0, none⟩) L c) ∧ u'.cell? ⟨g, j * 2, none⟩ = some (.int .i64 ((q : Int) + 1)) ∧ u'.cell? ⟨g, j * 2 + 1, none⟩ = some (.int .i64 x))) := fun u' hu' => ⟨(hu'.cell (p := ⟨w.heap.size, 0, none⟩) (unhide HS)).trans b0, (hu'.cell (p := ⟨w.heap.size, 1, none⟩) (unhide HS)).trans b1, e3 u' hu'⟩
      have C1 : Hid (∀ z, Calls Try.prog 33 #[.agg #[.int .i64 most, .slice (some ⟨g, 0, none⟩) L c], .int .i64 ((q : Int) + 1)] (wr.drewN z) fun e w' => e = .returned (.int .i64 j) ∧ (w'.cell? ⟨w.heap.size, 0, none⟩ = some (.int .i64 most) ∧ w'.cell? ⟨w.heap.size, 1, none⟩ = some (.slice (some ⟨g, 0, none⟩) L c) ∧ w'.cell? ⟨g, j * 2, none⟩ = some (.int .i64 ((q : Int) + 1)) ∧ w'.cell? ⟨g, j * 2 + 1, none⟩ = some (.int .i64 x)) ∧ ∃ a5 c5 w5, Hid ((Builtin.append_ #[25, 25] 25 #[.slice a3 n3 c3, .slice (some ⟨w'.heap.size, 0, none⟩) 1 1]).run Try.prog (w'.alloc (.cells #[.int .i64 ((q : Int) + 1), .int .i64 x] 47)) = .ok (.slice a5 (n3 + 1) c5) w5) ∧ (w5.cell? ⟨w.heap.size, 0, none⟩ = some (.int .i64 most) ∧ w5.cell? ⟨w.heap.size, 1, none⟩ = some (.slice (some ⟨g, 0, none⟩) L c) ∧ w5.cell? ⟨g, j * 2, none⟩ = some (.int .i64 ((q : Int) + 1)) ∧ w5.cell? ⟨g, j * 2 + 1, none⟩ = some (.int .i64 x)) ∧ Hid (n3 + 1 = (ris ps (q + 1)).length ∧ w5.ownsRow w1.heap.size 47 2 (.slice a5 (n3 + 1) c5) (n3 + 1) (enc .i64 (ris ps (q + 1))) ∧ Below w1.heap.size w1 w5)) := fun z => by
        refine (e4 (.slice a3 n3 c3) (wr.drewN z) (below_drewN i4 z) (by rw [← i0]; exact row_low i3 (Nat.le_refl _) (fun _ _ => rfl))).mono ?_
        rintro e w' ⟨he, hu', a5, c5, w5, p1, p2, p3⟩
        rw [← i0] at p1 p2
        exact ⟨he, unhide HSX w' hu', a5, c5, w5, p1, unhide HSX w5 p3, by rw [hl, ← i0], p2, p3⟩
      have HCN : Hid (∀ u, Below w1.heap.size w1 u → Calls Try.prog 37 #[.agg #[.int .i64 most, .slice (some ⟨g, 0, none⟩) L c], .int .i64 ((q : Int) + 1 + 1)] u fun e w' => ∃ r, e = .returned (.int .i64 r) ∧ Hid (NextIs ps ((q : Int) + 1 + 1) r ∧ Below u.heap.size u w')) := fun u hu => unhide CN _ u hu
      obtain ⟨s0, s1, s2, s3⟩ := unhide HSX wr i4
      have hjz : (j : Int) < (L : Int) := by omega
      have hq6 : (q : Int) < 65536 := by have := unhide HIT; omega
      have HQL := hide hql
      have hq0 : (0 : Int) < (q : Int) + 1 := by omega
      clear hh i0 i1 i2 i3 i4 hg e2 e3 e4 hl hpq hql CF CN HSX b0 b1
      go_upto_region 5 with fail
      go_region_held3 (fun u => (u.cell? ⟨w.heap.size, 0, none⟩ = some (.int .i64 most) ∧ u.cell? ⟨w.heap.size, 1, none⟩ = some (.slice (some ⟨g, 0, none⟩) L c) ∧ u.cell? ⟨g, j * 2, none⟩ = some (.int .i64 ((q : Int) + 1)) ∧ u.cell? ⟨g, j * 2 + 1, none⟩ = some (.int .i64 x))) (first | exact ⟨dd0, dd1, dd2, dd3⟩ | exact ⟨ff0, ff1, ff2, ff3⟩ | (go_keep; done) | ((try dsimp only); (repeat' apply And.intro) <;> first | go_keep | assumption)) (first | (go_at_call 33; refine (unhide C1 _).mono ?_; rintro e w' ⟨rfl, ⟨dd0, dd1, dd2, dd3⟩, a5, c5, w5, HR, ⟨ff0, ff1, ff2, ff3⟩, hE⟩) | (refine step_append_run rfl (.tmp 13) (.tmp 21) 25 rfl _ _ (by simp [Act.eval]) (by simp [Act.eval]) _ _ HR.out ?_))
      have HCN5 := hide (unhide HCN w5 (unhide hE).2.2)
      clear HCN C1 HR
      go_wp2_with fail
      refine (unhide HCN5).mono ?_
      rintro e u6 ⟨r6, rfl, h6⟩
      clear HCN5
      go_wp2_with fail
      go_roundw
      case rel =>
        obtain ⟨g1, g2, g3⟩ := unhide hE
        obtain ⟨g4, g5⟩ := unhide h6
        have hql := unhide HQL
        exact ⟨q + 1, r6, a5, n3 + 1, c5, rfl, rfl, g1, by omega, by rw [show (((q + 1 : Nat) : Int) + 1) = (q : Int) + 1 + 1 by omega]; exact g4, row_low g2 (Nat.le_refl _) (fun k hk => g5.block k (g2.lt k hk).2), g3.trans (g5.mono g3.size)⟩
      case measure =>
        have hql := unhide HQL
        have := meas_next (N := ps.length) (unhide h6).1 hql
        exact this
end Go.Proofs.Ytkdlhnfagghppaa
