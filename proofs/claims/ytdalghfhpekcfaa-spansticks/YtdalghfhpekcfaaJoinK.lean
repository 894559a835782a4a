/- Set.Join over bytes. -/
import Derived.Test.YtdalghfhpekcfaaMergeK
import Derived.Test.YtdalghfhpekcfaaEqK
namespace Go.Proofs.Ytdalghfhpekcfaa
open Go.RowKit Go.Shelf

theorem below_undrew {B : Nat} {w w' : World} {q : Nat} (h : Below B (w.drewN q) w') : Below B w w' := ⟨h.os, h.tape, h.output, h.size, h.block⟩

set_option maxHeartbeats 1000000 in
set_option maxRecDepth 100000 in
theorem joinK {p1 p2 : Nat} {va vb : Value} {rs ss : List (Int × Int)} (w : World) (h1 : SetK w p1 va rs) (h2 : SetK w p2 vb ss) (c1 : Canon rs) (c2 : Canon ss) (f1 : Fits (-128) 127 rs) (f2 : Fits (-128) 127 ss) (n1 : rs.length ≤ 100000000) (n2 : ss.length ≤ 100000000) :
    Calls Try.prog 50 #[.pointer (some ⟨p1, 0, none⟩), .pointer (some ⟨p2, 0, none⟩)] w fun e w' => ∃ rs', Says e (rs' ≠ rs) ∧ Canon rs' ∧ Hid (∀ x, In rs' x ↔ In rs x ∨ In ss x) ∧ Fits (-128) 127 rs' ∧ rs'.length ≤ rs.length + ss.length ∧ ChangedK w p1 va rs' w' := by
  have HS := hide h1
  have k1 := h1.cell
  have k2 := h2.cell
  have CM : Hid (∀ q, Calls Try.prog 79 #[va, vb] (w.drewN q) fun e w' => ∃ g n c acc, e = .returned (.slice (some ⟨g, 0, none⟩) n c) ∧ (w'.cell? ⟨p1, 0, none⟩ = some va ∧ w'.cell? ⟨p2, 0, none⟩ = some vb) ∧ Hid (NewK w.heap.size w w' (.slice (some ⟨g, 0, none⟩) n c) acc ∧ Canon acc ∧ (∀ x, In acc x ↔ In rs x ∨ In ss x) ∧ Fits (-128) 127 acc ∧ acc.length ≤ rs.length + ss.length)) := fun q => by
    refine (mergeK (w.drewN q) (h1.kept rfl (fun _ _ => rfl)).row (h2.kept rfl (fun _ _ => rfl)).row c1 c2 f1 f2 n1 n2).mono ?_
    rintro e w' ⟨g, n, c, acc, rfl, hh⟩
    obtain ⟨m1, m2, m3, m4, m5⟩ := unhide hh
    have hb := below_undrew m1.below
    exact ⟨g, n, c, acc, rfl, ⟨(h1.below hb).cell, (h2.below hb).cell⟩, ⟨m1.row, m1.blk, hb, m1.size⟩, m2, m3, m4, m5⟩
  obtain ⟨a, ca, rfl⟩ := row_shape h1.row
  obtain ⟨a2, cb, rfl⟩ := row_shape h2.row
  have HN : Hid (rs.length ≤ 100000000 ∧ ss.length ≤ 100000000) := ⟨n1, n2⟩
  clear h1 h2 c1 c2 f1 f2 n1 n2
  generalize hL : rs.length = L at *
  generalize hM : ss.length = M at *
  have HL : Hid (rs.length = L ∧ ss.length = M) := ⟨hL, hM⟩
  clear hL hM
  go_enter Try.func50, Try.ntmps50
  go_wp2_with fail
  go_region_held3 (fun w' => w'.cell? ⟨p1, 0, none⟩ = some (.slice a L ca) ∧ w'.cell? ⟨p2, 0, none⟩ = some (.slice a2 M cb)) (first | exact ⟨dd1, dd2⟩ | exact ⟨k1, k2⟩ | (go_keep; done)) ((go_at_call 79; refine (unhide CM _).mono ?_; rintro e w' ⟨g, n, c, acc, rfl, ⟨dd1, dd2⟩, hT⟩))
  have HE : Hid (∃ r : Bool, (r = true ↔ acc = rs) ∧ Calls Try.prog 80 #[.slice (some ⟨g, 0, none⟩) n c, .slice a L ca] w' fun e w2 => e = .returned (.bool r) ∧ ∃ q, w2 = w'.drewN q) := by
    obtain ⟨m1, m2, m3, m4, m5⟩ := unhide hT
    have := unhide HL
    have := unhide HN
    refine ⟨decide (acc = rs), by simp, ?_⟩
    have hrow := ((unhide HS).below m1.below).row
    have := equalK w' m1.row hrow (by omega)
    refine this.mono ?_
    rintro e w2 ⟨⟨r, rfl, hr⟩, q, rfl⟩
    refine ⟨?_, q, rfl⟩
    have : r = decide (acc = rs) := by rw [Bool.eq_iff_iff, hr]; simp
    rw [this]
  obtain ⟨r, hr, hC⟩ := unhide HE
  have HR := hide hr
  have hfz : Hid (∀ q, (w'.drewN q).cell? ⟨p1, 0, none⟩ = some (.slice a L ca) ∧ (w'.drewN q).frozen? ⟨p1, 0, none⟩ = false) := fun q => by
    have hS := (unhide HS).below (unhide hT).1.below
    exact ⟨hS.cell, by simp [World.frozen?, World.drewN, hS.box]⟩
  have HCC := hide hC
  clear HE hr hC CM
  go_wp2_with fail
  refine (unhide HCC).mono ?_
  rintro e w2 ⟨rfl, q, rfl⟩
  clear HCC
  obtain ⟨y1, y2⟩ := unhide hfz q
  cases r with
  | true =>
    go_wp2_with fail
    go_ret
    have e1 : acc = rs := (unhide HR).1 (by first | exact trivial | rfl)
    obtain ⟨m1, m2, m3, m4, m5⟩ := unhide hT
    have HL2 := unhide HL
    refine ⟨acc, ⟨false, rfl, by simp [e1]⟩, m2, m3, m4, by omega, ?_⟩
    rw [e1]
    exact changed_belowK (unhide HS) (below_drewN m1.below q)
  | false =>
    go_wp2_with fail
    go_ret
    have e1 : acc ≠ rs := fun e => by have := (unhide HR).2 e; simp at this
    obtain ⟨m1, m2, m3, m4, m5⟩ := unhide hT
    have HL2 := unhide HL
    have hb := below_drewN m1.below q
    refine ⟨acc, ⟨true, rfl, by simp [e1]⟩, m2, m3, m4, by omega, ?_⟩
    exact changed_storeK (unhide HS) (Below.refl _ _) ⟨hb.os, hb.tape, hb.output, hb.size, fun k hk _ => hb.block k hk⟩ (m1.drew q).row (.inr m1.blk)

end Go.Proofs.Ytdalghfhpekcfaa
