/- The four calls that change: the reference's beside the program's. -/
import Derived.Test.YtfhidghjmookhaaRel2
namespace Go.Proofs.Ytfhidghjmookhaa
open Go.RowKit Go.Maps

/-- The row of the reference's items. -/
def itm (v : Value) (its : List (Int × Int)) : Rw := ⟨v, 35, 2, its.length, enc .i64 its⟩

/-- What the program's call does behind the reference's. -/
def Then (w0 : World) (p : Nat) (S : List (Part Int)) (f : Nat) (args : Array Value) (its : List (Int × Int)) (nx : Int) (yes : Bool) (its' : List (Int × Int)) (nx' : Int) : Prop :=
  its'.length ≤ its.length + 1 ∧ nx ≤ nx' ∧ nx' ≤ nx + its.length + 1 ∧ ∀ rs u, SideN w0 p S rs u → Calls Try.prog f args u fun e u' => e = .returned (.bool yes) ∧ Hid (∃ S', SideN w0 p S' rs u' ∧ Rel S' its' nx')

section
variable {w0 u : World} {p : Nat} {S : List (Part Int)} {rs : List Rw} {v : Value} {its : List (Int × Int)} {nx : Int}

theorem SideN.items (h : SideN w0 p S (itm v its :: rs) u) : u.ownsRow 0 35 2 v its.length (enc .i64 its) := row_down (h.rows _ (List.mem_cons_self ..)) (Nat.zero_le _)
theorem SideN.others (h : SideN w0 p S (itm v its :: rs) u) : SideN w0 p S rs u := h.sub (List.sublist_cons_self ..)
theorem SideN.items' {v' : Value} {its' : List (Int × Int)} {u' : World} {n : Nat} (h : SideN w0 p S (itm v its :: rs) u) (hn : n = its'.length) (hr : u'.ownsRow u.heap.size 35 2 v' n (enc .i64 its')) (hb : Below u.heap.size u u') : SideN w0 p S (itm v' its' :: rs) u' := by
  subst hn
  exact (h.more hb hr).sub (List.Sublist.cons_cons _ (List.sublist_cons_self ..))
theorem Rel.small (hR : Rel S its nx) (hn : its.length ≤ 1000) : tot S < 1099511627776 := by have := hR.len; omega

theorem addThen (k : Int) (hk : okN k) (h : SideN w0 p S (itm v its :: rs) u) (hR : Rel S its nx) (hn : its.length ≤ 1000) (hnx : 0 ≤ nx ∧ nx ≤ 1000000) :
    Calls Try.prog 30 #[.agg #[v, .int .i64 nx], .int .i64 k] u fun e u' => ∃ v' nx' yes, e = .returned (.tuple #[.agg #[v', .int .i64 nx'], .bool yes]) ∧ Hid (∃ its', SideN w0 p S (itm v' its' :: rs) u' ∧ Then w0 p S 26 #[.pointer (some ⟨p, 0, none⟩), .int .i64 k] its nx yes its' nx') := by
  have hn6 : its.length ≤ 1000000 := by omega
  by_cases hin : In S k
  · refine (refAddNo nx k u h.items hn6 (fun ho => (hR.out.1 ho) hin)).mono fun e u' hh => ⟨v, nx, false, hh.1, its, h.step (unhide hh.2), by omega, Int.le_refl _, by omega, fun rs u2 h2 => ?_⟩
    obtain ⟨x, hx, hkx⟩ := hin
    exact (addInLN k h2.live hx hkx).mono fun e u' hh => ⟨hh.1, S, by rw [hh.2]; exact h2, hR⟩
  · obtain ⟨i, hp⟩ := place_ex its k
    have hlen : (its.take i ++ (k, nx) :: its.drop i).length = its.length + 1 := by have := hp.1; simp; omega
    have hthen : Then w0 p S 26 #[.pointer (some ⟨p, 0, none⟩), .int .i64 k] its nx true (its.take i ++ (k, nx) :: its.drop i) (nx + 1) := by
      refine ⟨by omega, by omega, by omega, fun rs u2 h2 => ?_⟩
      refine (addSN k h2 hk (fun z hz e => hin ⟨z, hz, e⟩) (hR.small hn)).mono fun e u' hh => ⟨hh.1, ?_⟩
      obtain ⟨x, hx, h3⟩ := hh.2
      exact ⟨_, h3, hR.add hp hin hx⟩
    rcases h.items.2 with ⟨rfl, h0⟩ | ⟨g, cap, cur, rfl, -⟩
    · obtain rfl : its = [] := List.eq_nil_of_length_eq_zero h0
      obtain rfl : i = 0 := by have := hp.1; simpa using this
      refine (refAddNil nx k u hnx).mono fun e u' hh => ?_
      obtain ⟨v', he, hr⟩ := hh
      exact ⟨v', nx + 1, true, he, _, h.items' rfl (unhide hr).1 (unhide hr).2, hthen⟩
    · refine (refAddYes nx k i u h.items hn6 (hR.out.2 hin) hp hnx).mono fun e u' hh => ?_
      obtain ⟨v', he, hr⟩ := hh
      exact ⟨v', nx + 1, true, he, _, h.items' hlen.symm (unhide hr).1 (unhide hr).2, hthen⟩

theorem dropThen (k : Int) (hk : okN k) (h : SideN w0 p S (itm v its :: rs) u) (hR : Rel S its nx) (hn : its.length ≤ 1000) :
    Calls Try.prog 31 #[.agg #[v, .int .i64 nx], .int .i64 k] u fun e u' => ∃ v' nx' yes, e = .returned (.tuple #[.agg #[v', .int .i64 nx'], .bool yes]) ∧ Hid (∃ its', SideN w0 p S (itm v' its' :: rs) u' ∧ Then w0 p S 32 #[.pointer (some ⟨p, 0, none⟩), .int .i64 k] its nx yes its' nx') := by
  have hn6 : its.length ≤ 1000000 := by omega
  by_cases hin : In S k
  · obtain ⟨i, hi1, hik⟩ := (hR.keys k).1 hin
    obtain ⟨g, cap, rfl⟩ := item_block h.items (by omega)
    obtain ⟨x, hx, hkx⟩ := hin
    have hlen : its.length - 1 = (its.take i ++ its.drop (i + 1)).length := by simp; omega
    refine (refDropYes nx k i (its.length - 1) u h.items hn6 hi1 hik (fun m hm e => hR.inj hm hi1 (e.trans hik.symm)) (by omega)).mono fun e u' hh => ?_
    obtain ⟨v', he, hr⟩ := hh
    refine ⟨v', nx, true, he, _, h.items' hlen (unhide hr).1 (unhide hr).2, by omega, by omega, by omega, fun rs u2 h2 => ?_⟩
    refine (dropSN k h2 hx hkx (hR.small hn)).mono fun e u' hh => ⟨hh.1, ?_⟩
    obtain ⟨T, h3, h4, h5, h6⟩ := hh.2
    exact ⟨_, h6, hR.drop h2.fam hi1 hik hx hkx h3 h4 h5⟩
  · refine (refDropNo nx k u h.items hn6 (hR.out.2 hin)).mono fun e u' hh => ⟨v, nx, false, hh.1, its, h.step (unhide hh.2), by omega, by omega, by omega, fun rs u2 h2 => ?_⟩
    exact (dropNoLN k h2.live hk (fun z hz e => hin ⟨z, hz, e⟩)).mono fun e u' hh => ⟨hh.1, S, by rw [hh.2]; exact h2, hR⟩

theorem fOf_in (hf : Fam ltN okN S) {k : Int} : (∃ x ∈ S, k ∈ x.ks ∧ fOf S k = some x.q) ∨ ¬ In S k ∧ fOf S k = none := by
  by_cases h : In S k
  · obtain ⟨x, hx, hk⟩ := h
    exact .inl ⟨x, hx, hk, fOf_some hf hx hk⟩
  · exact .inr ⟨h, fOf_none.2 (fun x hx hk => h ⟨x, hx, hk⟩)⟩

theorem joinThen (a b : Int) (hka : okN a) (hkb : okN b) (h : SideN w0 p S (itm v its :: rs) u) (hR : Rel S its nx) (hn : its.length ≤ 1000) :
    Calls Try.prog 33 #[.agg #[v, .int .i64 nx], .int .i64 a, .int .i64 b] u fun e u' => ∃ v' nx' yes, e = .returned (.tuple #[.agg #[v', .int .i64 nx'], .bool yes]) ∧ Hid (∃ its', SideN w0 p S (itm v' its' :: rs) u' ∧ Then w0 p S 27 #[.pointer (some ⟨p, 0, none⟩), .int .i64 a, .int .i64 b] its nx yes its' nx') := by
  have hn6 : its.length ≤ 1000000 := by omega
  have hf := h.fam
  obtain ⟨ra, hra⟩ := at_ex its a
  obtain ⟨rb, hrb⟩ := at_ex its b
  have hno : ∀ (hno : fOf S a = none ∨ fOf S b = none ∨ fOf S a = fOf S b) (hr : ra < 0 ∨ rb < 0 ∨ hi its ra.toNat = hi its rb.toNat), Calls Try.prog 33 #[.agg #[v, .int .i64 nx], .int .i64 a, .int .i64 b] u fun e u' => ∃ v' nx' yes, e = .returned (.tuple #[.agg #[v', .int .i64 nx'], .bool yes]) ∧ Hid (∃ its', SideN w0 p S (itm v' its' :: rs) u' ∧ Then w0 p S 27 #[.pointer (some ⟨p, 0, none⟩), .int .i64 a, .int .i64 b] its nx yes its' nx') := fun hno hr => by
    refine (refJoinNo nx a b ra rb u h.items hn6 hra hrb hr).mono fun e u' hh => ⟨v, nx, false, hh.1, its, h.step (unhide hh.2), by omega, by omega, by omega, fun rs u2 h2 => ?_⟩
    exact (joinNoSN a b h2 hka hkb hno).mono fun e u' hh => ⟨hh.1, S, hh.2, hR⟩
  have hout : ∀ {k r : Int}, AtIs its k r → ¬ In S k → r < 0 := fun hr hk => by
    rcases hr with ⟨e, -⟩ | ⟨i, h1, -, h2, -⟩
    · omega
    · exact absurd ((hR.keys _).2 ⟨i, h1, h2⟩) hk
  have hin : ∀ {k r : Int}, AtIs its k r → In S k → ∃ i : Nat, i < its.length ∧ r = (i : Int) ∧ lo its i = k := fun hr hk => by
    rcases hr with ⟨-, e⟩ | ⟨i, h1, h2, h3, -⟩
    · obtain ⟨j, h1, h2⟩ := (hR.keys _).1 hk
      exact absurd h2 (e j h1)
    · exact ⟨i, h1, h2, h3⟩
  rcases fOf_in (k := a) hf with ⟨x, hx, hax, fa⟩ | ⟨na, fa⟩
  · rcases fOf_in (k := b) hf with ⟨y, hy, hby, fb⟩ | ⟨nb, fb⟩
    · obtain ⟨i, hi1, rfl, hia⟩ := hin hra ⟨x, hx, hax⟩
      obtain ⟨j, hj1, rfl, hjb⟩ := hin hrb ⟨y, hy, hby⟩
      by_cases hq : x.q = y.q
      · have hxy : x = y := by
          rcases hf.of hx hy with e | hA
          · exact e
          · exact absurd hq hA.1
        subst hxy
        refine hno (.inr (.inr (by rw [fa, fb]))) (.inr (.inr ?_))
        simp only [Int.toNat_natCast]
        exact (hR.marks i j hi1 hj1).2 ⟨x, hx, by rw [hia]; exact hax, by rw [hjb]; exact hby⟩
      · have hne : (hi its i == hi its j) = false := by
          refine beq_eq_false_iff_ne.2 (fun e => ?_)
          have := (sm_iff hf hx (by rw [hia]; exact hax) _).1 ((hR.marks i j hi1 hj1).1 e)
          rw [hjb] at this
          rcases hf.of hx hy with e2 | hA
          · exact hq (by rw [e2])
          · exact hA.2.2 b this hby
        obtain ⟨g, cap, rfl⟩ := item_block h.items (by omega)
        refine (refJoinYes nx a b i j u h.items hn6 hi1 hj1 hra hrb hne).mono fun e u' hh => ?_
        obtain ⟨v', he, hr⟩ := hh
        refine ⟨v', nx, true, he, _, h.items' (by simp) (unhide hr).1 (unhide hr).2, by simp, by omega, by omega, fun rs u2 h2 => ?_⟩
        refine (joinSN a b h2 hx hy hax hby hq (hR.small hn)).mono fun e u' hh => ⟨hh.1, ?_⟩
        obtain ⟨z, R, h3, h4, h5, h6⟩ := hh.2
        exact ⟨_, h6, hR.join h2.fam hi1 hj1 hx hy (by rw [hia]; exact hax) (by rw [hjb]; exact hby) hq h3 h4 h5⟩
    · exact hno (.inr (.inl fb)) (.inr (.inl (hout hrb nb)))
  · exact hno (.inl fa) (.inl (hout hra na))

theorem burstThen (k : Int) (hk : okN k) (h : SideN w0 p S (itm v its :: rs) u) (hR : Rel S its nx) (hn : its.length ≤ 1000) (hnx : 0 ≤ nx ∧ nx ≤ 1000000) :
    Calls Try.prog 34 #[.agg #[v, .int .i64 nx], .int .i64 k] u fun e u' => ∃ v' nx' yes, e = .returned (.tuple #[.agg #[v', .int .i64 nx'], .bool yes]) ∧ Hid (∃ its', SideN w0 p S (itm v' its' :: rs) u' ∧ Then w0 p S 35 #[.pointer (some ⟨p, 0, none⟩), .int .i64 k] its nx yes its' nx') := by
  have hn6 : its.length ≤ 1000000 := by omega
  by_cases hin : In S k
  · obtain ⟨i, hi1, hik⟩ := (hR.keys k).1 hin
    obtain ⟨g, cap, rfl⟩ := item_block h.items (by omega)
    obtain ⟨x, hx, hkx⟩ := hin
    refine (refBurstYes nx k i u h.items hn6 hi1 (hR.at hi1 hik) (by omega)).mono fun e u' hh => ?_
    obtain ⟨v', he, hr⟩ := hh
    have hc := cntM_le (hi its i) its its.length
    refine ⟨v', _, true, he, _, h.items' (bmark_length _ _ _ _).symm (unhide hr).1 (unhide hr).2, by rw [bmark_length]; omega, by omega, by omega, fun rs u2 h2 => ?_⟩
    refine (burstSN k h2 hx hkx (hR.small hn)).mono fun e u' hh => ⟨hh.1, ?_⟩
    obtain ⟨T, h3, h4⟩ := hh.2
    exact ⟨_, h4, hR.burst h2.fam hi1 hx (by rw [hik]; exact hkx) h3⟩
  · refine (refBurstNo nx k u h.items hn6 (hR.out.2 hin)).mono fun e u' hh => ⟨v, nx, false, hh.1, its, h.step (unhide hh.2), by omega, by omega, by omega, fun rs u2 h2 => ?_⟩
    exact (burstNoLN k h2.live hk (fun z hz e => hin ⟨z, hz, e⟩)).mono fun e u' hh => ⟨hh.1, S, by rw [hh.2]; exact h2, hR⟩
end
end Go.Proofs.Ytfhidghjmookhaa
