/- TreeBuilds, walked. -/
import Derived.Test.YtijgeoegeeejcaaRW13
import Derived.Test.YtijgeoegeeejcaaER13
import Derived.Test.YtijgeoegeeejcaaAwake13
namespace Go.Proofs.Ytijgeoegeeejcaa
open Go.RowKit Go.Maps
theorem eds_pos {w : World} {a : Option Addr} {len cap : Nat} {o : Nat → EdV} (h : IsEdsC w a len cap o) (m : Nat) (hm : m ≤ len) : ∀ x ∈ (List.range m).map o, 0 ≤ x.2.2.2 := fun x hx => by
  obtain ⟨i, hi, rfl⟩ := List.mem_map.1 hx
  have hi := List.mem_range.1 hi
  rcases h.1 with q | ⟨b, off, -, -, hc⟩
  · omega
  · have := (hc i (by omega)).2
    have e0 : IntKind.u32.min = 0 := by decide
    simp [Lit.wf] at this
    omega
set_option maxHeartbeats 8000000 in
set_option maxRecDepth 100000 in
theorem builds_any [Inhabited EntF] {w : World} {a0 a1 : Option Addr} {len0 cap0 len1 cap1 : Nat} {z : Nat → Int} {o : Nat → EdV} (s : Int) (h0 : IsIntsC w a0 len0 cap0 z) (h1 : IsEdsC w a1 len1 cap1 o) (hb0 : len0 < 1000000000000000000) (hb1 : len1 < 1000000000000000000) :
    Calls Try.prog 3 #[.slice a0 len0 cap0, .slice a1 len1 cap1, .int .i64 s] w fun e w' => e = .returned (.bool true) ∧ Below w.heap.size w w' := by
  have CA := hide (awakeS w)
  have CC : Hid (∀ W, Below w.heap.size w W → Calls Try.prog 9 #[.slice a0 len0 cap0, .slice a1 len1 cap1] W fun e w' => Hid (∃ v1 v2, e = .returned (.tuple #[v1, v2]) ∧ CutAns W ((List.range (min len0 40)).map z) ((List.range (min len1 160)).map o) v1 v2 w')) := fun W hW => cutS ⟨isInts_below h0.1 hW, h0.2⟩ (isEds_below h1 hW) hb0 hb1
  have hk1 : ((List.range (min len0 40)).map z).length ≤ 1000 := by simp; omega
  have hk2 : ((List.range (min len1 160)).map o).length ≤ 1000 := by simp; omega
  have hk3 := eds_pos h1 (min len1 160) (Nat.min_le_left _ _)
  generalize (List.range (min len0 40)).map z = ks at *
  generalize (List.range (min len1 160)).map o = es at *
  have HK : Hid (ks.length ≤ 1000 ∧ es.length ≤ 1000 ∧ ∀ x ∈ es, 0 ≤ x.2.2.2) := ⟨hk1, hk2, hk3⟩
  clear h0 h1 hb0 hb1 hk1 hk2 hk3
  go_enter Try.func3, Try.ntmps3
  go_wp2_with fail
  refine (unhide CA).mono ?_
  rintro e w1 ⟨rfl, hb1⟩
  have CC2 := hide (unhide CC w1 (unhide hb1))
  clear CA CC
  go_wp2_with fail
  refine (unhide CC2).mono ?_
  intro e w2 H2
  obtain ⟨v1, v2, rfl, c1, c2, c3, -⟩ := unhide H2
  obtain ⟨x1, r1, rfl, -⟩ := brow_shape c2
  obtain ⟨x2, r2, rfl⟩ := rrow_shape c3
  have C3 := hide (buildS (s := s) (brow_at0 c2) (rrow_low c3 (Nat.zero_le _)) (unhide HK).1 (unhide HK).2.1)
  have hB2 : Below w.heap.size w w2 := (unhide hb1).trans (c1.mono (unhide hb1).size)
  obtain ⟨n1, hn1⟩ : ∃ n1, n1 = ks.length := ⟨_, rfl⟩
  obtain ⟨n2, hn2⟩ : ∃ n2, n2 = es.length := ⟨_, rfl⟩
  rw [← hn1, ← hn2] at C3
  rw [← hn2] at c3
  rw [← hn1] at c2
  have HE : Hid (∀ W, Below w2.heap.size w2 W → ERow 0 W (.slice x2 n2 r2) es ∧ NRow W (.slice x1 n1 r1) ks ∧ Below w.heap.size w W) := fun W hW => ⟨rrow_below (rrow_low c3 (Nat.zero_le _)) hW, nrow_below (brow_at0 c2) hW, hB2.trans (hW.mono hB2.size)⟩
  rw [← hn1, ← hn2]
  clear CC2 H2 c1 c2 c3 hB2 hb1 hn1 hn2
  go_wp2_with fail
  refine (unhide C3).mono ?_
  rintro e w3 ⟨po, er, rfl, H3⟩
  obtain ⟨ys, q1, q2, q3, q4, q5⟩ := unhide H3
  have C4 := hide (errorR (s := s) (unhide HE w3 q3).2.1 (unhide HE w3 q3).1 (unhide HK).1 (unhide HK).2.1)
  have HY : Hid (ys.Perm ks ∧ ys.Pairwise (· ≤ ·) ∧ Below w2.heap.size w2 w3 ∧ er = faultC ys es s) := ⟨q1, q2, q3, q4⟩
  clear C3 H3 q1 q2 q3 q4
  go_wp2_with fail
  refine (unhide C4).mono ?_
  intro e w4 H4
  obtain ⟨rfl, HB4⟩ : e = .returned (.int .i64 er) ∧ Hid (Below w3.heap.size w3 w4) := by
    obtain ⟨ys', p1, p2, p3, p4⟩ := unhide H4
    obtain ⟨y1, y2, y3, y4⟩ := unhide HY
    have hys : ys' = ys := srt_eq (p1.trans y1.symm) p2 y2
    rw [hys] at p3
    exact ⟨by rw [p3, y4], p4⟩
  clear C4 H4
  rcases q5 with ⟨z0, rfl⟩ | ⟨rfl, p, ds, fs, rfl, hT⟩
  · have z1 : (er != 0) = true := by simpa using z0
    have HF : Hid (Below w.heap.size w w4) := (unhide HE w4 ((unhide HY).2.2.1.trans ((unhide HB4).mono (unhide HY).2.2.1.size))).2.2
    clear HY HB4 HE HK z0
    go_wp2_with fail
    go_ret
    exact ⟨rfl, unhide HF⟩
  · have hB4 : Below w2.heap.size w2 w4 := (unhide HY).2.2.1.trans ((unhide HB4).mono (unhide HY).2.2.1.size)
    have HT := hide (hT.below (unhide HB4))
    have C5 := hide (graphR (unhide HE w4 hB4).2.1 (unhide HE w4 hB4).1 (unhide HK).1 (unhide HK).2.1 (unhide HK).2.2)
    have HF : Hid (Below w.heap.size w w4) := (unhide HE w4 hB4).2.2
    clear hT HB4 HE hB4
    go_wp2_with fail
    refine (unhide C5).mono ?_
    intro e w5 H5
    obtain ⟨a, n, c, ea, en, ec, V, rfl, g1, g2, g3, g4, g5⟩ := unhide H5
    have hV : V = ys := srt_eq (g1.trans (unhide HY).1.symm) g2 (unhide HY).2.1
    subst hV
    have C6 := hide (rightR (rd := 0) (wr0 := 0) ((unhide HT).below g5) g3 g4 (unhide HK).2.1)
    have HF5 : Hid (Below w.heap.size w w5) := (unhide HF).trans (g5.mono (unhide HF).size)
    clear C5 H5 g1 g2 g3 g4 g5 HT HF HY HK
    go_wp2_with fail
    refine (unhide C6).mono ?_
    rintro e w6 ⟨rfl, hb6⟩
    have HF6 : Hid (Below w.heap.size w w6) := (unhide HF5).trans ((unhide hb6).mono (unhide HF5).size)
    clear C6 hb6 HF5
    go_wp2_with fail
    go_ret
    exact ⟨rfl, unhide HF6⟩
end Go.Proofs.Ytijgeoegeeejcaa
