/- The walk of bramblelaw05.PartsJoins. -/
import Derived.Test.YtfhidghjmookhaaJoinsMath
import Derived.Test.YtfhidghjmookhaaFallWalk
import Derived.Deep.RegionHeld3
namespace Go.Proofs.Ytfhidghjmookhaa
open Go.RowKit Go.Maps

/-- Behind the joining: the part z holds both; so many parts, so many things in z. -/
def Together (w0 : World) (p : Nat) (a b : List UInt8) (one : Bool) (L1 L2 L3 : Nat) (S : List (Part (List UInt8))) (z : Part (List UInt8)) (w : World) : Prop :=
  SideZ w0 p S [] w ∧ z ∈ S ∧ a ∈ z.ks ∧ b ∈ z.ks ∧ tot S ≤ 302 ∧ (one = true → z.ks.length = L1 ∧ S.length = L3) ∧ (one = false → z.ks.length = L1 + L2 ∧ S.length + 1 = L3)

theorem same_of {S : List (Part (List UInt8))} (hf : Fam ltZ okZ S) {z : Part (List UInt8)} (hz : z ∈ S) {a b : List UInt8} (ha : a ∈ z.ks) (hb : b ∈ z.ks) : ((fOf S a).isSome && fOf S a == fOf S b) = true := by
  rw [fOf_some hf hz ha, fOf_some hf hz hb]
  simp

set_option maxHeartbeats 4000000 in
set_option maxRecDepth 100000 in
theorem joins_any (a : Option Addr) (b off len cap N : Nat) (o : Nat → Int × Int × Int) (kx ky : Int) (w : World) (hN : Hid (N = min len 100))
    (HC : Hid (∀ i, i < len → a = some ⟨b, off, none⟩ ∧ w.cell? ⟨b, off + i * 3, none⟩ = some (.int .i64 (o i).1) ∧ w.cell? ⟨b, off + i * 3 + 1, none⟩ = some (.int .i64 (o i).2.1) ∧ w.cell? ⟨b, off + i * 3 + 2, none⟩ = some (.int .i64 (o i).2.2))) :
    Calls Try.prog 5 #[.slice a len cap, .int .i64 kx, .int .i64 ky] w fun e w' => e = .returned (.bool true) ∧ Below w.heap.size w w' := by
  go_enter Try.func5, Try.ntmps5
  go_wp2_with fail
  refine (filled_any a b off len cap N o w hN HC).mono ?_
  rintro e w1 ⟨p, rfl, H1⟩
  go_wp2_with fail
  refine (awake_any w1).mono ?_
  rintro e w2 ⟨rfl, hb2⟩
  obtain ⟨S, hS, hT, -⟩ := unhide H1
  have HS2 : Hid (SideZ w p S [] w2) := hS.side.step hb2
  clear hS H1 hb2
  go_wp2_with fail
  refine (name_any kx w2).mono ?_
  rintro e w3 ⟨rfl, hb3⟩
  go_wp2_with fail
  refine (name_any ky w3).mono ?_
  rintro e w4 ⟨rfl, hb4⟩
  have CA := hide (addAnySZ (nm kx) (((unhide HS2).step hb3).step hb4) (ok_nm kx) hT (by omega))
  have OKA := hide (ok_nm kx)
  have OKB := hide (ok_nm ky)
  generalize nm kx = ta at *
  generalize nm ky = tb at *
  clear hb3 hb4 HS2 hT
  go_wp2_with fail
  refine (unhide CA).mono ?_
  rintro e w5 ⟨b5, rfl, H5⟩
  obtain ⟨S5, hS5, hT5, ⟨xa, hxa, haa⟩, -⟩ := unhide H5
  have CB := hide (addAnySZ tb hS5 (unhide OKB) hT5 (by omega))
  clear CA H5
  go_wp2_with fail
  refine (unhide CB).mono ?_
  rintro e w6 ⟨b6, rfl, H6⟩
  obtain ⟨S6, hS6, hT6, ⟨xb, hxb, hbb⟩, hsub⟩ := unhide H6
  have hxa6 := hsub xa hxa
  have HTT : Hid (tot S6 < 1099511627776) := by show _ < _; omega
  have HXA := hide (And.intro hxa6 haa)
  have HXB := hide (And.intro hxb hbb)
  have HT6 : Hid (tot S6 ≤ 302) := hT6
  have CMA := hide (membersSZ ta hS6 hxa6 haa (unhide HTT))
  have HF6 := hide hS6.fam
  clear CB H6 hS5 hT5 hxa haa hS6 hT6 hxb hbb hsub hxa6
  go_wp2_with fail
  refine (unhide CMA).mono ?_
  rintro e w7 ⟨v7, rfl, HS7⟩
  have hS7 := unhide HS7
  obtain ⟨⟨a1, c1, he1⟩, -⟩ := row_texts (hS7.rows _ (List.mem_cons_self ..))
  have CMB := hide (membersSZ tb (hS7.sub (List.sublist_cons_self ..)) (unhide HXB).1 (unhide HXB).2 (unhide HTT))
  simp only [rwZ] at he1
  subst he1
  clear CMA HS7 hS7
  obtain ⟨L1, hL1⟩ : ∃ L1, xa.ks.length = L1 := ⟨_, rfl⟩
  rw [hL1]
  have HL1 := hide hL1
  clear hL1
  go_wp2_with fail
  refine (unhide CMB).mono ?_
  rintro e w8 ⟨v8, rfl, HS8⟩
  have hS8 := unhide HS8
  obtain ⟨⟨a2, c2, he2⟩, -⟩ := row_texts (hS8.rows _ (List.mem_cons_self ..))
  have CH := hide (headsSZ (hS8.sub (List.sublist_cons_self ..)) (unhide HTT))
  simp only [rwZ] at he2
  subst he2
  clear CMB HS8 hS8
  obtain ⟨L2, hL2⟩ : ∃ L2, xb.ks.length = L2 := ⟨_, rfl⟩
  rw [hL2]
  have HL2 := hide hL2
  clear hL2
  go_wp2_with fail
  refine (unhide CH).mono ?_
  rintro e w9 ⟨v9, rfl, HS9⟩
  obtain ⟨ys, hy, hS9⟩ := unhide HS9
  obtain ⟨⟨a3, c3, he3⟩, -⟩ := row_texts (hS9.rows _ (List.mem_cons_self ..))
  simp only [rwZ] at he3
  subst he3
  rw [heads_length (unhide HF6) hy]
  have HS10 : Hid (SideZ w p S6 [] w9) := hS9.sub (List.sublist_cons_self ..)
  clear CH HS9 hS9 hy
  obtain ⟨L3, hL3⟩ : ∃ L3, S6.length = L3 := ⟨_, rfl⟩
  rw [hL3]
  have HL3 := hide hL3
  clear hL3
  have CS := hide (sameLZ ta tb (unhide HS10).live (unhide OKA) (unhide OKB))
  obtain ⟨one, hone⟩ : ∃ one, ((fOf S6 ta).isSome && fOf S6 ta == fOf S6 tb) = one := ⟨_, rfl⟩
  rw [hone] at CS
  have HONE : Hid (one = true ∧ xa = xb ∨ one = false ∧ xa.q ≠ xb.q) := by
    rw [fOf_some (unhide HF6) (unhide HXA).1 (unhide HXA).2, fOf_some (unhide HF6) (unhide HXB).1 (unhide HXB).2] at hone
    rcases (unhide HF6).of (unhide HXA).1 (unhide HXB).1 with e | ha
    · subst e
      exact .inl ⟨by rw [← hone]; simp, rfl⟩
    · refine .inr ⟨by rw [← hone]; simpa using ha.1, ha.1⟩
  clear hone
  go_wp2_with fail
  refine (unhide CS).mono ?_
  rintro e w' ⟨rfl, rfl⟩
  rename World => w9
  clear CS
  go_upto_region 9 with fail
  go_cut [63] from 51 to 63 (fun s63 wq => s63 = .bool false ∧ Hid (∃ S z, Together w p ta tb one L1 L2 L3 S z wq))
  case first =>
    rcases unhide HONE with ⟨rfl, hab⟩ | ⟨rfl, hab⟩
    · subst hab
      have CJ := hide (joinNoSZ ta tb (unhide HS10) (unhide OKA) (unhide OKB) (.inr (.inr (by rw [fOf_some (unhide HF6) (unhide HXA).1 (unhide HXA).2, fOf_some (unhide HF6) (unhide HXB).1 (unhide HXB).2]))))
      go_wp2_with fail
      refine (unhide CJ).mono ?_
      rintro e w11 ⟨rfl, hS11⟩
      have CS := hide (sameLZ ta tb hS11.live (unhide OKA) (unhide OKB))
      rw [same_of (unhide HF6) (unhide HXA).1 (unhide HXA).2 (unhide HXB).2] at CS
      have HE : Hid (∃ S z, Together w p ta tb true L1 L2 L3 S z w11) := ⟨S6, xa, hS11, (unhide HXA).1, (unhide HXA).2, (unhide HXB).2, unhide HT6, fun _ => ⟨unhide HL1, unhide HL3⟩, fun e => by cases e⟩
      clear CJ hS11
      go_wp2_with fail
      refine (unhide CS).mono ?_
      rintro e w' ⟨rfl, rfl⟩
      clear CS
      go_wp2_with fail
      go_meet
      case rel => exact ⟨rfl, unhide HE⟩
    · have CJ := hide (joinSZ ta tb (unhide HS10) (unhide HXA).1 (unhide HXB).1 (unhide HXA).2 (unhide HXB).2 hab (unhide HTT))
      go_wp2_with fail
      refine (unhide CJ).mono ?_
      rintro e w11 ⟨rfl, z, R, h1, h2, h3, hS11⟩
      have hza : ta ∈ z.ks := (h1 ta).2 (.inl (unhide HXA).2)
      have hzb : tb ∈ z.ks := (h1 tb).2 (.inr (unhide HXB).2)
      have hzm : z ∈ R ++ [z] := by simp
      have CS := hide (sameLZ ta tb hS11.live (unhide OKA) (unhide OKB))
      rw [same_of hS11.fam hzm hza hzb] at CS
      have HE : Hid (∃ S z, Together w p ta tb false L1 L2 L3 S z w11) := by
        have t1 := tot_without (unhide HF6) (unhide HXA).1
        have t2 := tot_without ((unhide HF6).without xa) (mem_without.2 ⟨(unhide HXB).1, fun e => hab e.symm⟩)
        have t3 := tot_without (unhide HF6) (unhide HXB).1
        have t4 := tot_without ((unhide HF6).without xb) (mem_without.2 ⟨(unhide HXA).1, hab⟩)
        have l1 := len_without (unhide HF6) (unhide HXA).1
        have l2 := len_without ((unhide HF6).without xa) (mem_without.2 ⟨(unhide HXB).1, fun e => hab e.symm⟩)
        have l3 := len_without (unhide HF6) (unhide HXB).1
        have l4 := len_without ((unhide HF6).without xb) (mem_without.2 ⟨(unhide HXA).1, hab⟩)
        have t5 := unhide HT6
        have l5 := unhide HL3
        refine ⟨_, z, hS11, hzm, hza, hzb, ?_, (fun e => by cases e), fun _ => ⟨by rw [h2, unhide HL1, unhide HL2], ?_⟩⟩
        · rw [tot_append, tot_one, h2]
          rcases h3 with rfl | rfl <;> omega
        · rw [List.length_append, List.length_singleton]
          rcases h3 with rfl | rfl <;> omega
      clear CJ hS11 h1 h2 h3 hza hzb hzm
      go_wp2_with fail
      refine (unhide CS).mono ?_
      rintro e w' ⟨rfl, rfl⟩
      clear CS
      go_wp2_with fail
      go_meet
      case rel => exact ⟨rfl, unhide HE⟩
  case rest =>
    obtain ⟨rfl, HTG⟩ := hcut
    rename World => wj
    obtain ⟨S7, z, hS7, hz, hza, hzb, hT7, ho1, ho2⟩ := unhide HTG
    have HLB : Hid (L1 ≤ 302 ∧ L2 ≤ 302 ∧ L3 ≤ 302) := by
      have e1 := len_le_tot (unhide HXA).1
      have e2 := len_le_tot (unhide HXB).1
      have e3 := parts_leZ (unhide HF6)
      have := unhide HL1; have := unhide HL2; have := unhide HL3; have := unhide HT6
      exact ⟨by omega, by omega, by omega⟩
    have HT7 : Hid (tot S7 ≤ 302) := hT7
    have HT7b : Hid (tot S7 < 1099511627776) := by show _ < _; omega
    have HF7 := hide hS7.fam
    have HZ := hide (And.intro hz (And.intro hza hzb))
    have CMA := hide (membersSZ tb hS7 hz hzb (unhide HT7b))
    obtain ⟨M, hM⟩ : ∃ M, z.ks.length = M := ⟨_, rfl⟩
    obtain ⟨W, hW⟩ : ∃ W, S7.length = W := ⟨_, rfl⟩
    rw [hM, hW] at ho1 ho2
    have HO1 := hide ho1
    have HO2 := hide ho2
    have HM := hide hM
    have HW := hide hW
    have hMb : M ≤ 302 := by have := len_le_tot hz; omega
    have hMp : 0 < M := by rw [← hM]; exact List.length_pos_iff.2 (fun e => by rw [e] at hza; cases hza)
    have HWb : Hid (0 < W ∧ W ≤ 302) := ⟨by rw [← hW]; exact List.length_pos_iff.2 (fun e => by rw [e] at hz; cases hz), by have := parts_leZ hS7.fam; omega⟩
    clear HTG hS7 hz hza hzb hT7 ho1 ho2 hM hW HS10 HF6 HXA HXB HT6 HTT HL1 HL2 HL3 HONE
    go_wp2_with fail
    refine (unhide CMA).mono ?_
    rintro e w8 ⟨v8, rfl, HS8⟩
    have hS8 := unhide HS8
    unfold rwZ at hS8
    rw [unhide HM] at hS8
    obtain ⟨⟨a4, c4, he4⟩, R4⟩ := row_texts (hS8.rows ⟨v8, 9, 1, M, z.ks.map encStr⟩ (by simp))
    simp only at he4 R4
    subst he4
    obtain ⟨g4, c4', he4, -⟩ := R4 0 hMp
    injection he4 with e1 e2 e3
    subst e1
    have HR4 : Hid (∀ wx, SideZ w p S7 [⟨.slice (some ⟨g4, 0, none⟩) M c4, 9, 1, M, z.ks.map encStr⟩] wx → True) := fun _ _ => trivial
    have HALL : Hid (∀ (Sx : List (Part (List UInt8))) rs (wx : World), SideZ w p Sx (⟨.slice (some ⟨g4, 0, none⟩) M c4, 9, 1, M, z.ks.map encStr⟩ :: rs) wx → ∀ j, j < M → wx.cell? ⟨g4, j, none⟩ = some (encStr (z.ks.getD j []))) := fun Sx rs wx hx j hj => by
      obtain ⟨g', c', he, hc⟩ := (row_texts (hx.rows ⟨.slice (some ⟨g4, 0, none⟩) M c4, 9, 1, M, z.ks.map encStr⟩ (by simp))).2 j hj
      simp at he
      rw [he.1]
      exact hc
    have HS9 := hide hS8
    clear HR4 HS8 hS8 R4 e2 e3 CMA
    go_upto_region 12 with fail
    go_cut [97] from 67 to 97 (fun s97 wq => s97 = .bool false ∧ Hid (SideZ w p S7 [⟨.slice (some ⟨g4, 0, none⟩) M c4, 9, 1, M, z.ks.map encStr⟩] wq))
    case first =>
      cases one with
      | true =>
        obtain ⟨e1, e2⟩ := unhide HO1 rfl
        subst e1
        go_wp2_with fail
        go_meet
        case rel => exact ⟨rfl, unhide HS9⟩
      | false =>
        obtain ⟨e1, e2⟩ := unhide HO2 rfl
        have f1 : IntKind.i64.wrap ((L1 : Int) + (L2 : Int)) = (M : Int) := by have := unhide HLB; rw [IntKind.wrap_i64]; omega
        have f2 : IntKind.i64.wrap ((L3 : Int) - 1) = (W : Int) := by have := unhide HLB; rw [IntKind.wrap_i64]; omega
        have CH := hide (headsSZ (unhide HS9) (unhide HT7b))
        clear e1 e2
        go_wp2_with fail
        refine (unhide CH).mono ?_
        rintro e w9 ⟨v9, rfl, HS9⟩
        obtain ⟨ys, hy, hS9⟩ := unhide HS9
        obtain ⟨⟨a5, c5, he5⟩, -⟩ := row_texts (hS9.rows _ (List.mem_cons_self ..))
        simp only [rwZ] at he5
        subst he5
        rw [heads_length (unhide HF7) hy, unhide HW]
        have HS10 : Hid (SideZ w p S7 [⟨.slice (some ⟨g4, 0, none⟩) M c4, 9, 1, M, z.ks.map encStr⟩] w9) := hS9.sub (List.sublist_cons_self ..)
        clear CH HS9 hS9 hy
        go_wp2_with fail
        go_meet
        case rel => exact ⟨rfl, unhide HS10⟩
    case rest =>
      obtain ⟨rfl, HS10⟩ := hcut
      rename World => wk
      clear HS9
      have f2 : ∃ l3 : Int, IntKind.i64.wrap ((L3 : Int) - 1) = l3 ∧ Hid (l3 = (L3 : Int) - 1) := ⟨(L3 : Int) - 1, by have := unhide HLB; rw [IntKind.wrap_i64]; omega, rfl⟩
      obtain ⟨l3, f2, HL3⟩ := f2
      go_upto_if 101 with fail
      go_cut [15] from 102 to 103 (fun s15 wq => s15 = .int .i64 W ∧ wq = wk)
      case first =>
        cases one with
        | true =>
          obtain ⟨e1, e2⟩ := unhide HO1 rfl
          subst e2
          clear e1
          go_wp2_with fail
          go_meet
          case rel => exact ⟨rfl, rfl⟩
        | false =>
          obtain ⟨e1, e2⟩ := unhide HO2 rfl
          have e3 : l3 = (W : Int) := by have := unhide HL3; omega
          subst e3
          clear e1 e2
          go_wp2_with fail
          go_meet
          case rel => exact ⟨rfl, rfl⟩
      case rest =>
        obtain ⟨rfl, rfl⟩ := hcut
        rename World => wk
        obtain ⟨W1, h1, HW1⟩ : ∃ W1 : Int, IntKind.i64.wrap ((W : Int) - 1) = W1 ∧ Hid (W1 = (W : Int) - 1) := ⟨(W : Int) - 1, by have := unhide HWb; rw [IntKind.wrap_i64]; omega, rfl⟩
        obtain ⟨H2, h2, HH2⟩ : ∃ H2 : Nat, IntKind.i64.wrap (W1 + (M : Int)) = (H2 : Int) ∧ Hid (H2 + 1 = W + M) := ⟨W + M - 1, by have := unhide HWb; have := unhide HW1; rw [IntKind.wrap_i64]; omega, by have := unhide HWb; show _ = _; omega⟩
        have CBU := hide (burstPart ta (unhide HS10) (unhide HZ).1 (unhide HZ).2.1 (unhide HT7b))
        clear HO1 HO2 HLB f2 HL3 HWb
        go_wp2_with fail
        refine (unhide CBU).mono ?_
        rintro e w11 ⟨rfl, H11⟩
        obtain ⟨S8, hS8, hT8, hl8, hone⟩ := unhide H11
        have HT8b : Hid (tot S8 < 1099511627776) := by have := unhide HT7; show _ < _; omega
        have HT8 : Hid (tot S8 ≤ 302) := by have := unhide HT7; show _ ≤ _; omega
        have HSING := hide hone
        have HLEN : Hid (S8.length = H2) := by have := unhide HH2; have := unhide HW; have := unhide HM; show _ = _; omega
        have HF8 := hide hS8.fam
        have CH := hide (headsSZ hS8 (unhide HT8b))
        clear CBU H11 hS8 hT8 hl8 hone HS10 HW1
        go_wp2_with fail
        refine (unhide CH).mono ?_
        rintro e w12 ⟨v12, rfl, HS12⟩
        obtain ⟨ys, hy, hS12⟩ := unhide HS12
        obtain ⟨⟨a5, c5, he5⟩, -⟩ := row_texts (hS12.rows _ (List.mem_cons_self ..))
        simp only [rwZ] at he5
        subst he5
        rw [heads_length (unhide HF8) hy, unhide HLEN]
        have HS13 : Hid (SideZ w p S8 [⟨.slice (some ⟨g4, 0, none⟩) M c4, 9, 1, M, z.ks.map encStr⟩] w12) := hS12.sub (List.sublist_cons_self ..)
        clear CH HS12 hS12 hy
        go_wp2_with fail
        go_loopw [121] (fun s121 wr => ∃ j : Nat, j ≤ M ∧ s121 = .int .i64 j ∧ Hid (SideZ w p S8 [⟨.slice (some ⟨g4, 0, none⟩) M c4, 9, 1, M, z.ks.map encStr⟩] wr)) (fun s121 _ => M - (intOf s121).toNat)
        case atStart => exact ⟨0, Nat.zero_le _, rfl, unhide HS13⟩
        case round =>
          obtain ⟨j, hj, rfl, HS14⟩ := hrel
          rename World => wl
          clear HS13 h1 h2
          by_cases hjl : j < M
          · have hjz : (j : Int) < (M : Int) := by omega
            have hcell := unhide HALL S8 [] wl (unhide HS14) j hjl
            have hjm : z.ks.getD j [] ∈ z.ks := by
              have : j < z.ks.length := by rw [unhide HM]; exact hjl
              simp [List.getD, this]
            have CM := hide (membersPart (z.ks.getD j []) (unhide HS14) (unhide HSING _ hjm) rfl (unhide HT8b))
            go_wp2_with fail
            refine (unhide CM).mono ?_
            rintro e w15 ⟨v15, rfl, HS15⟩
            obtain ⟨ks, hr, hk, hS15⟩ := unhide HS15
            have hks : ks = [z.ks.getD j []] := rising_ext linZ hr (List.pairwise_singleton _ _) (fun k => (hk k).trans List.mem_singleton.symm)
            subst hks
            obtain ⟨⟨a6, c6, he6⟩, -⟩ := row_texts (hS15.rows _ (List.mem_cons_self ..))
            simp only [rwZ, List.length_singleton] at he6
            subst he6
            have HS16 : Hid (SideZ w p S8 [⟨.slice (some ⟨g4, 0, none⟩) M c4, 9, 1, M, z.ks.map encStr⟩] w15) := hS15.sub (List.sublist_cons_self ..)
            clear CM HS15 hS15 hr hk hjm
            go_wp2_with fail
            go_roundw
            case rel => exact ⟨j + 1, by omega, by go_num, unhide HS16⟩
            case measure => simp [intOf]; omega
          · have hjz : ¬ (j : Int) < (M : Int) := by omega
            have HS17 : Hid (∃ S, SideZ w p S [⟨.slice (some ⟨g4, 0, none⟩) M c4, 9, 1, M, z.ks.map encStr⟩] wl ∧ Again S z.ks 0) := ⟨S8, unhide HS14, again_zero (unhide HT8) (unhide HSING) (by rw [unhide HM]; exact hMp)⟩
            clear HS14 hj
            go_wp2_with fail
            go_loopw [133] (fun s133 wr => ∃ i : Nat, i ≤ M ∧ s133 = .int .i64 i ∧ Hid (∃ S, SideZ w p S [⟨.slice (some ⟨g4, 0, none⟩) M c4, 9, 1, M, z.ks.map encStr⟩] wr ∧ Again S z.ks i)) (fun s133 _ => M - (intOf s133).toNat)
            case atStart => exact ⟨0, Nat.zero_le _, rfl, unhide HS17⟩
            case round =>
              obtain ⟨i, hi, rfl, HS18⟩ := hrel
              rename World => wm
              clear HS17
              by_cases hil : i < M
              · have hiz : (i : Int) < (M : Int) := by omega
                have hmz : (0 : Int) < (M : Int) := by omega
                by_cases hi0 : i = 0
                · subst hi0
                  have HE : Hid (∀ q, ∃ S, SideZ w p S [⟨.slice (some ⟨g4, 0, none⟩) M c4, 9, 1, M, z.ks.map encStr⟩] (wm.drewN q) ∧ Again S z.ks 1) := fun q => by
                    obtain ⟨S, g1, g2⟩ := unhide HS18
                    exact ⟨S, g1.step (below_drewN (Below.refl _ _) q), again_one g2⟩
                  go_upto_region 28 with fail
                  go_quiet (fail)
                  go_wp2_with fail
                  go_roundw
                  case rel => exact ⟨1, by omega, by go_num, unhide HE _⟩
                  case measure => simp [intOf]; omega
                · have h01 : (0 : Int) < (i : Int) := by omega
                  have h02 : 0 < i := by omega
                  have h03 : decide ((0 : Int) < (i : Int)) = true := decide_eq_true h01
                  obtain ⟨S9, g1, g2⟩ := unhide HS18
                  have q0 := unhide HALL S9 [] wm g1 0 hMp
                  have q1 := unhide HALL S9 [] wm g1 i hil
                  have CJ : Hid (∀ q, Calls Try.prog 24 #[.pointer (some ⟨p, 0, none⟩), encStr (z.ks.getD 0 []), encStr (z.ks.getD i [])] (wm.drewN q) fun e w' => e = .returned (.bool true) ∧ (w'.cell? ⟨g4, 0, none⟩ = some (encStr (z.ks.getD 0 [])) ∧ w'.cell? ⟨g4, i, none⟩ = some (encStr (z.ks.getD i []))) ∧ Hid (∃ S', SideZ w p S' [⟨.slice (some ⟨g4, 0, none⟩) M c4, 9, 1, M, z.ks.map encStr⟩] w' ∧ Again S' z.ks (i + 1))) := fun q =>
                    (again_next ((unhide HF7).rise z (unhide HZ).1) g2 (by omega) (by rw [unhide HM]; exact hil) (g1.step (below_drewN (Below.refl _ _) q))).mono fun e w' hh => by
                      obtain ⟨S', k1, k2⟩ := unhide hh.2
                      exact ⟨hh.1, ⟨unhide HALL S' [] w' k1 0 hMp, unhide HALL S' [] w' k1 i hil⟩, S', k1, k2⟩
                  generalize z.ks.getD 0 [] = k0 at q0 CJ
                  generalize z.ks.getD i [] = ki at q1 CJ
                  clear g1 g2 HS18 hi0
                  go_upto_region 28 with fail
                  go_cut [149] from 136 to 149 (fun s149 wq => s149 = .bool false ∧ Hid (∃ S', SideZ w p S' [⟨.slice (some ⟨g4, 0, none⟩) M c4, 9, 1, M, z.ks.map encStr⟩] wq ∧ Again S' z.ks (i + 1)))
                  case first =>
                    go_region_held3 (fun w' => w'.cell? ⟨g4, 0, none⟩ = some (encStr k0) ∧ w'.cell? ⟨g4, i, none⟩ = some (encStr ki)) (first | exact ⟨dd1, dd2⟩ | exact ⟨q0, q1⟩ | (go_keep; done)) ((go_at_call 24; refine (unhide CJ _).mono ?_; rintro e w' ⟨rfl, ⟨dd1, dd2⟩, hT⟩))
                    all_goals
                      go_wp2_with fail
                      go_meet
                      case rel => exact ⟨rfl, unhide hT⟩
                  case rest =>
                    obtain ⟨rfl, HT⟩ := hcut
                    clear CJ
                    go_wp2_with fail
                    go_roundw
                    case rel => exact ⟨i + 1, by omega, by go_num, unhide HT⟩
                    case measure => simp [intOf]; omega
              · have hiz : ¬ (i : Int) < (M : Int) := by omega
                obtain rfl : i = M := by omega
                obtain ⟨S9, g1, g2, g3, -⟩ := unhide HS18
                have htk : z.ks.take (max i 1) = z.ks := List.take_of_length_le (by have := unhide HM; omega)
                rw [htk] at g3
                have CM := hide (membersPart ta g1 g3 (unhide HZ).2.1 (by omega))
                clear HS18 g1 g2 g3 htk HSING
                go_wp2_with fail
                refine (unhide CM).mono ?_
                rintro e w20 ⟨v20, rfl, HS20⟩
                obtain ⟨ks, hr, hk, hS20⟩ := unhide HS20
                have hks : ks = z.ks := rising_ext linZ hr ((unhide HF7).rise z (unhide HZ).1) hk
                subst hks
                unfold rwZ at hS20
                rw [unhide HM] at hS20
                obtain ⟨⟨a6, c6, he6⟩, R6⟩ := row_texts (hS20.rows ⟨v20, 9, 1, i, z.ks.map encStr⟩ (by simp))
                simp only at he6 R6
                subst he6
                obtain ⟨g6, c6', he6, -⟩ := R6 0 hMp
                injection he6 with e1 e2 e3
                subst e1
                have HQ : Hid (∀ j, j < i → w20.cell? ⟨g4, j, none⟩ = some (encStr (z.ks.getD j [])) ∧ w20.cell? ⟨g6, j, none⟩ = some (encStr (z.ks.getD j []))) := fun j hj => by
                  refine ⟨unhide HALL S9 _ w20 (hS20.perm (List.Perm.swap _ _ _)) j hj, ?_⟩
                  obtain ⟨g', c', he, hc⟩ := R6 j hj
                  simp at he
                  rw [he.1]
                  exact hc
                have HBB := hide hS20.below
                clear CM HS20 hS20 hr hk R6 e2 e3
                go_wp2_with fail
                go_loopw [161] (fun s161 wr => ∃ j : Nat, j ≤ i ∧ s161 = .int .i64 j ∧ Hid (∃ q, wr = w20.drewN q)) (fun s161 _ => i - (intOf s161).toNat)
                case atStart => exact ⟨0, Nat.zero_le _, rfl, 0, rfl⟩
                case round =>
                  obtain ⟨j, hj, rfl, HW⟩ := hrel
                  rename World => wz
                  by_cases hjl : j < i
                  · have hjz : (j : Int) < (i : Int) := by omega
                    obtain ⟨m1, m2⟩ := unhide HQ j hjl
                    generalize z.ks.getD j [] = kj at m1 m2
                    have m1' : wz.cell? ⟨g4, j, none⟩ = some (encStr kj) := by obtain ⟨q, rfl⟩ := unhide HW; exact m1
                    have m2' : wz.cell? ⟨g6, j, none⟩ = some (encStr kj) := by obtain ⟨q, rfl⟩ := unhide HW; exact m2
                    have HW2 : Hid (∀ n, ∃ q, wz.drewN n = w20.drewN q) := fun n => by obtain ⟨q, rfl⟩ := unhide HW; exact ⟨q + n, by first | rfl | simp⟩
                    clear m1 m2 HQ
                    go_upto_region 37 with fail
                    go_quiet (fail)
                    go_wp2_with fail
                    go_roundw
                    case rel => exact ⟨j + 1, by omega, by go_num, unhide HW2 _⟩
                    case measure => simp [intOf]; omega
                  · have hjz : ¬ (j : Int) < (i : Int) := by omega
                    have HB2 : Hid (Below w.heap.size w wz) := by obtain ⟨q, rfl⟩ := unhide HW; exact below_drewN (unhide HBB) q
                    clear HW HQ HBB
                    go_wp2_with fail
                    go_ret
                    exact ⟨rfl, unhide HB2⟩
end Go.Proofs.Ytfhidghjmookhaa
