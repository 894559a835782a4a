/- The walk of bramblelaw05.PartsFall. -/
import Derived.Test.YtfhidghjmookhaaFallMath
import Derived.Test.YtfhidghjmookhaaAwake
import Derived.Deep.Cut
import Derived.Deep.CutRange
import Derived.Lib.SlicesS
import Derived.Laws.Cover1
namespace Go.Proofs.Ytfhidghjmookhaa
open Go.RowKit Go.Maps

/-- A row of texts, as the walk wants it. -/
theorem row_texts {w : World} {B n : Nat} {v : Value} {ks : List (List UInt8)} (h : w.ownsRow B 9 1 v n (ks.map encStr)) : (∃ a c, v = .slice a n c) ∧ ∀ j, j < n → ∃ g c, v = .slice (some ⟨g, 0, none⟩) n c ∧ w.cell? ⟨g, j, none⟩ = some (encStr (ks.getD j [])) := by
  obtain ⟨h1, h2⟩ := row_form h
  refine ⟨h1, fun j hj => ?_⟩
  obtain ⟨g, c, u, he, -, hc, hl, -⟩ := h2 j hj
  refine ⟨g, c, he, ?_⟩
  rw [List.getElem?_map, Option.map_eq_some_iff] at hl
  obtain ⟨s, hs, rfl⟩ := hl
  rw [hc, List.getD, hs]
  rfl

/-- What holds ahead of the t-th head. -/
def FallAt (S : List (Part (List UInt8))) (ys : List (List UInt8)) (t n : Nat) (last : List UInt8) : Prop :=
  n = ((ys.take t).map (sizeOfPart S)).sum ∧ last = if t = 0 then [] else ys.getD (t - 1) []

theorem FallAt.next {S : List (Part (List UInt8))} {ys : List (List UInt8)} {t n M : Nat} {last : List UInt8} (h : FallAt S ys t n last) (ht : t < ys.length) (hM : sizeOfPart S (ys.getD t []) = M) : FallAt S ys (t + 1) (n + M) (ys.getD t []) := by
  refine ⟨?_, by simp⟩
  rw [List.take_succ_eq_append_getElem ht, List.map_append, List.sum_append, ← h.1, ← hM]
  simp [List.getD, ht]

theorem FallAt.bound {S : List (Part (List UInt8))} {ys : List (List UInt8)} {t n : Nat} {last : List UInt8} (h : FallAt S ys t n last) (hf : Fam ltZ okZ S) (hy : HeadsAreZ S ys) : n ≤ tot S := by
  rw [h.1, List.map_take, ← heads_sum hf hy]
  exact take_sum_le _ _

theorem FallAt.after {S : List (Part (List UInt8))} {ys : List (List UInt8)} {t n : Nat} {last : List UInt8} (h : FallAt S ys t n last) (ht : t < ys.length) (hy : HeadsAreZ S ys) (hf : ys.getD t [] ≠ []) : ltZ last (ys.getD t []) = true := by
  rw [h.2]
  by_cases h0 : t = 0
  · rw [if_pos h0]; exact ltZ_nil hf
  · rw [if_neg h0]; exact rising_at hy.1 (by omega) ht

theorem head_part {S : List (Part (List UInt8))} {ys : List (List UInt8)} (hy : HeadsAreZ S ys) {t : Nat} (ht : t < ys.length) : ∃ x ∈ S, x.ks.headD [] = ys.getD t [] := by
  refine (hy.2 _).1 ?_
  simp [List.getD, ht]

set_option maxHeartbeats 4000000 in
set_option maxRecDepth 100000 in
theorem fall_any (a : Option Addr) (b off len cap N : Nat) (o : Nat → Int × Int × Int) (w : World) (hN : Hid (N = min len 100))
    (HC : Hid (∀ i, i < len → a = some ⟨b, off, none⟩ ∧ w.cell? ⟨b, off + i * 3, none⟩ = some (.int .i64 (o i).1) ∧ w.cell? ⟨b, off + i * 3 + 1, none⟩ = some (.int .i64 (o i).2.1) ∧ w.cell? ⟨b, off + i * 3 + 2, none⟩ = some (.int .i64 (o i).2.2))) :
    Calls Try.prog 4 #[.slice a len cap] w fun e w' => e = .returned (.bool true) ∧ Below w.heap.size w w' := by
  go_enter Try.func4, Try.ntmps4
  go_wp2_with fail
  refine (filled_any a b off len cap N o w hN HC).mono ?_
  rintro e w1 ⟨p, rfl, H1⟩
  go_wp2_with fail
  refine (awake_any w1).mono ?_
  rintro e w2 ⟨rfl, hb2⟩
  obtain ⟨S, hS, hT⟩ := unhide H1
  have HLE := hide hT
  have HFM := hide hS.fam
  have HTT : Hid (tot S < 1099511627776) := by have := hT.tot; show _ < _; omega
  have CH := hide (headsSZ (hS.side.step hb2) (unhide HTT))
  clear hS H1 hb2 hT
  go_wp2_with fail
  refine (unhide CH).mono ?_
  rintro e w3 ⟨v, rfl, HS3⟩
  obtain ⟨ys, hy, hS3⟩ := unhide HS3
  have HY := hide hy
  obtain ⟨L, hL⟩ : ∃ L, ys.length = L := ⟨_, rfl⟩
  unfold rwZ at hS3
  rw [hL] at hS3
  obtain ⟨⟨a6, c6, he6⟩, -⟩ := row_texts (hS3.rows ⟨v, 9, 1, L, ys.map encStr⟩ (by simp))
  simp only at he6
  subst he6
  have HS3 := hide hS3
  have HL := hide hL
  have hLb : L ≤ 300 := by have := hy.len (unhide HFM); have := (unhide HLE).tot; omega
  clear CH hy hS3 hL
  go_wp2_with fail
  go_loopw [4, 5, 26] (fun s4 s5 s26 wr => ∃ (t n : Nat) (last : List UInt8), t ≤ L ∧ s26 = .int .i64 t ∧ s4 = .int .i64 n ∧ s5 = encStr last ∧ Hid (FallAt S ys t n last ∧ SideZ w p S [⟨.slice a6 L c6, 9, 1, L, ys.map encStr⟩] wr)) (fun _ _ s26 _ => L - (intOf s26).toNat)
  case atStart => exact ⟨0, 0, [], Nat.zero_le _, rfl, rfl, rfl, ⟨rfl, rfl⟩, unhide HS3⟩
  case round =>
    obtain ⟨t, n, last, ht, rfl, rfl, rfl, HR⟩ := hrel
    rename World => wo
    clear HS3
    by_cases htl : t < L
    · have htz : (t : Int) < (L : Int) := by omega
      obtain ⟨hF, hS⟩ := unhide HR
      have hty : t < ys.length := by rw [unhide HL]; exact htl
      obtain ⟨x, hx, hxh⟩ := head_part (unhide HY) hty
      have hmem := headD_mem (unhide HFM) hx
      obtain ⟨g, c, he, hcell⟩ := (row_texts (hS.rows ⟨.slice a6 L c6, 9, 1, L, ys.map encStr⟩ (by simp))).2 t htl
      simp only at he
      injection he with he1 he2 he3
      subst he1
      obtain ⟨h, hh⟩ : ∃ h, h = ys.getD t [] := ⟨_, rfl⟩
      rw [← hh] at hxh hcell
      rw [hxh] at hmem
      have hfull := (unhide HLE).full x hx h hmem
      have hlt := hF.after hty (unhide HY) (by rw [← hh]; exact hfull)
      rw [← hh] at hlt
      obtain ⟨M, hM⟩ : ∃ M, x.ks.length = M := ⟨_, rfl⟩
      have hnext := hF.next hty (M := M) (by rw [← hh, sizeOfPart_eq (unhide HFM) hx hmem, hM])
      rw [← hh] at hnext
      have hbound : n + M ≤ 300 := by
        have := hnext.bound (unhide HFM) (unhide HY)
        have := (unhide HLE).tot
        omega
      have hMp : 0 < M := by rw [← hM]; exact List.length_pos_iff.2 (fun e => by rw [e] at hmem; cases hmem)
      have CM := hide (membersSZ h hS hx hmem (unhide HTT))
      have HLT := hide (not_le hlt)
      have HNX := hide hnext
      have HX := hide (And.intro hx (And.intro hmem hxh))
      have HM := hide hM
      clear hF hS HR hmem hxh hfull hlt hnext hM hx he2 he3 hh hty
      go_wp2_with fail
      refine (unhide CM).mono ?_
      rintro e w5 ⟨v5, rfl, HS5⟩
      have hS5 := unhide HS5
      unfold rwZ at hS5
      rw [unhide HM] at hS5
      obtain ⟨⟨a5, c5, he5⟩, R5⟩ := row_texts (hS5.rows ⟨v5, 9, 1, M, x.ks.map encStr⟩ (by simp))
      simp only at he5
      subst he5
      obtain ⟨g5, c5', he5, hc0⟩ := R5 0 hMp
      simp only at he5
      injection he5 with e1 e2 e3
      subst e1
      have hx0 : x.ks.getD 0 [] = h := by
        rw [← (unhide HX).2.2]
        cases x.ks <;> rfl
      rw [hx0] at hc0
      have HR5 : Hid (∀ j, j < M → w5.cell? ⟨g5, j, none⟩ = some (encStr (x.ks.getD j []))) := fun j hj => by
        obtain ⟨g', c', he, hc⟩ := R5 j hj
        simp at he
        rw [he.1]
        exact hc
      have HS6 := hide hS5
      obtain ⟨nl1, nl2⟩ := unhide HLT
      have hM0 : ((M : Int) == 0) = false := by simp; omega
      have hMz : (0 : Int) < (M : Int) := by omega
      clear CM hS5 HS5 R5 e2 e3 hx0
      go_wp2_with fail
      go_loopw [4, 51] (fun s4 s51 wr => ∃ (i n2 : Nat), i ≤ M ∧ s51 = .int .i64 i ∧ s4 = .int .i64 n2 ∧ wr = w5 ∧ Hid (n2 = n + i)) (fun _ s51 _ => M - (intOf s51).toNat)
      case atStart => exact ⟨0, n, Nat.zero_le _, rfl, rfl, rfl, rfl⟩
      case round =>
        obtain ⟨i, n2, hi, rfl, rfl, rfl, HN2⟩ := hrel
        rename World => w5
        by_cases hil : i < M
        · have hiz : (i : Int) < (M : Int) := by omega
          have hci := unhide HR5 i hil
          have hki : x.ks.getD i [] ∈ x.ks := by
            have : i < x.ks.length := by rw [unhide HM]; exact hil
            simp [List.getD, this]
          have CHD := headLZ (x.ks.getD i []) (unhide HS6).live (unhide HX).1 hki
          rw [(unhide HX).2.2] at CHD
          have CSM := sameLZ (x.ks.getD i []) h (unhide HS6).live ((unhide HFM).keys x (unhide HX).1 _ hki) ((unhide HFM).keys x (unhide HX).1 _ (unhide HX).2.1)
          rw [fOf_some (unhide HFM) (unhide HX).1 hki, fOf_some (unhide HFM) (unhide HX).1 (unhide HX).2.1] at CSM
          simp only [Option.isSome_some, beq_self_eq_true, Bool.and_self] at CSM
          have HCHD := hide CHD
          have HCSM := hide CSM
          have hw2 : IntKind.i64.wrap ((n2 : Int) + 1) = ((n2 + 1 : Nat) : Int) := by
            have := unhide HN2
            rw [IntKind.wrap_i64]; omega
          clear CHD CSM
          by_cases hi0 : i = 0
          · have h00 : ¬ (0 : Int) < (i : Int) := by omega
            generalize x.ks.getD i [] = ki at *
            clear hi0
            go_wp2_with fail
            refine (unhide HCHD).mono ?_
            rintro e w' ⟨rfl, rfl⟩
            clear HCHD
            go_wp2_with fail
            refine (unhide HCSM).mono ?_
            rintro e w' ⟨rfl, rfl⟩
            clear HCSM
            go_wp2_with fail
            go_roundw
            case rel => exact ⟨i + 1, n2 + 1, by omega, by go_num, by first | rfl | go_num, trivial, by have := unhide HN2; show _ = _; omega⟩
            case measure => simp [intOf]; omega
          · obtain ⟨j, hj⟩ : ∃ j, i = j + 1 := ⟨i - 1, by omega⟩
            have hcj := unhide HR5 j (by omega)
            have hlt := not_le (rising_at ((unhide HFM).rise x (unhide HX).1) (show j < i by omega) (by rw [unhide HM]; exact hil))
            obtain ⟨ml1, ml2⟩ := hlt
            have h01 : (0 : Int) < (i : Int) := by omega
            have h02 : IntKind.i64.wrap ((i : Int) - 1) = (j : Int) := by rw [IntKind.wrap_i64]; omega
            have h03 : (j : Int) < (M : Int) := by omega
            generalize x.ks.getD i [] = ki at *
            generalize x.ks.getD j [] = kj at *
            clear hi0 hj
            go_wp2_with fail
            refine (unhide HCHD).mono ?_
            rintro e w' ⟨rfl, rfl⟩
            clear HCHD
            go_wp2_with fail
            refine (unhide HCSM).mono ?_
            rintro e w' ⟨rfl, rfl⟩
            clear HCSM
            go_wp2_with fail
            go_roundw
            case rel => exact ⟨i + 1, n2 + 1, by omega, by go_num, by first | rfl | go_num, trivial, by have := unhide HN2; show _ = _; omega⟩
            case measure => simp [intOf]; omega
        · have hiz : ¬ (i : Int) < (M : Int) := by omega
          obtain rfl : i = M := by omega
          have HNX2 : Hid (FallAt S ys (t + 1) n2 h) := by
            have := unhide HN2
            have h2 := unhide HNX
            rw [← this] at h2
            exact h2
          have CH := hide (headsSZ (unhide HS6) (unhide HTT))
          have HN2b : Hid (n2 ≤ 300) := by have := unhide HN2; show _ ≤ _; omega
          clear HNX HN2 HR5 hM0 hMz nl1 nl2 HLT hc0 hcell
          go_wp2_with fail
          refine (unhide CH).mono ?_
          rintro e w7 ⟨v7, rfl, HS7⟩
          obtain ⟨ys', hy, hS7⟩ := unhide HS7
          obtain rfl := (unhide HY).one hy
          unfold rwZ at hS7
          rw [unhide HL] at hS7
          obtain ⟨⟨a7, c7, he7⟩, R7⟩ := row_texts (hS7.rows ⟨v7, 9, 1, L, ys.map encStr⟩ (by simp))
          simp only at he7
          subst he7
          have HR7 := hide R7
          have HS8 := hide hS7
          clear CH hy HS7 hS7 R7
          go_wp2_with fail
          go_loopw [95] (fun s95 wr => ∃ (j : Nat), j ≤ L ∧ s95 = .int .i64 j ∧ wr = w7) (fun s95 _ => L - (intOf s95).toNat)
          case atStart => exact ⟨0, Nat.zero_le _, rfl, rfl⟩
          case round =>
            obtain ⟨j, hj, rfl, rfl⟩ := hrel
            rename World => w7
            by_cases hjl : j < L
            · have hjz : (j : Int) < (L : Int) := by omega
              obtain ⟨g7, c7', he, hcj⟩ := unhide HR7 j hjl
              injection he with e1 e2 e3
              subst e1
              obtain ⟨y, hy, hyh⟩ := head_part (unhide HY) (show j < ys.length by rw [unhide HL]; exact hjl)
              have hsame := head_same (unhide HFM) (unhide HX).1 hy
              rw [(unhide HX).2.2, hyh] at hsame
              have hymem := headD_mem (unhide HFM) hy
              rw [hyh] at hymem
              have CS := sameLZ (ys.getD j []) h (unhide HS8).live ((unhide HFM).keys y hy _ hymem) ((unhide HFM).keys x (unhide HX).1 _ (unhide HX).2.1)
              rw [hsame] at CS
              clear e2 e3 hsame hymem hyh hy
              generalize ys.getD j [] = gj at *
              by_cases hgh : gj = h
              · subst hgh
                rw [decide_eq_true rfl] at CS
                have HCS := hide CS
                clear CS
                go_wp2_with fail
                refine (unhide HCS).mono ?_
                rintro e w' ⟨rfl, rfl⟩
                clear HCS
                go_wp2_with fail
                go_roundw
                case rel => exact ⟨j + 1, by omega, by go_num, by first | trivial | rfl⟩
                case measure => simp [intOf]; omega
              · rw [decide_eq_false hgh] at CS
                have HCS := hide CS
                have hgb : (gj == h) = false := by simpa using hgh
                clear CS hgh
                go_wp2_with fail
                refine (unhide HCS).mono ?_
                rintro e w' ⟨rfl, rfl⟩
                clear HCS
                go_wp2_with fail
                go_roundw
                case rel => exact ⟨j + 1, by omega, by go_num, by first | trivial | rfl⟩
                case measure => simp [intOf]; omega
            · have hjz : ¬ (j : Int) < (L : Int) := by omega
              have HS9 : Hid (SideZ w p S [⟨.slice (some ⟨g, 0, none⟩) L c6, 9, 1, L, ys.map encStr⟩] w7) := (unhide HS8).sub (by simp)
              clear HS8 HS6 HR7
              go_wp2_with fail
              go_roundw
              case rel => exact ⟨t + 1, n2, h, by omega, by go_num, rfl, rfl, unhide HNX2, unhide HS9⟩
              case measure => simp [intOf]; omega
    · have htz : ¬ (t : Int) < (L : Int) := by omega
      obtain rfl : t = L := by omega
      obtain ⟨hF, hS⟩ := unhide HR
      have hn : n = tot S := by
        have h1 := hF.1
        rw [← unhide HL, List.take_length, heads_sum (unhide HFM) (unhide HY)] at h1
        exact h1
      have CL := lenLZ hS.live
      rw [← hn] at CL
      have HCL := hide CL
      have HBB := hide hS.below
      clear CL hF hS HR hn
      go_wp2_with fail
      refine (unhide HCL).mono ?_
      rintro e w' ⟨rfl, rfl⟩
      clear HCL
      go_wp2_with fail
      go_ret
      exact ⟨by simp, unhide HBB⟩
end Go.Proofs.Ytfhidghjmookhaa
