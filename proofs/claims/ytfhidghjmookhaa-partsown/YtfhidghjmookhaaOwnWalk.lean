/- The walk of bramblelaw05.PartsOwn. -/
import Derived.Test.YtfhidghjmookhaaSideZ
import Derived.Test.YtfhidghjmookhaaFilled
import Derived.Test.YtfhidghjmookhaaAwake
import Derived.Deep.RegionHeld3
import Derived.Deep.Cut
import Derived.Deep.CutRange
import Derived.Lib.AppendZeros
import Derived.Lib.SlicesS
namespace Go.Proofs.Ytfhidghjmookhaa
open Go.RowKit Go.Maps

theorem info9Z : (Try.prog.info? 9).map (fun i => (i.zero, i.size, i.bytes)) = some (some (.string { data := #[] }), 1, 16) := by kernel_rfl

/-- A text is laid behind the first row. -/
theorem SideZ.append {w0 w : World} {p n : Nat} {S : List (Part (List UInt8))} {rs : List Rw} {v : Value} {xs : List Value} (h : SideZ w0 p S (⟨v, 9, 1, n, xs⟩ :: rs) w) (K : ByteArray) (hn : n < 1000000) :
    ∃ a' c' w', (Builtin.append_ #[45, 45] 45 #[v, .slice (some ⟨w.heap.size, 0, none⟩) 1 1]).run Try.prog (w.alloc (.cells #[.string K] 9)) = .ok (.slice a' (n + 1) c') w' ∧ SideZ w0 p S (⟨.slice a' (n + 1) c', 9, 1, n + 1, xs ++ [.string K]⟩ :: rs) w' := by
  have h2 := h.step ((Below.refl _ _).alloc (Nat.le_refl _) (.cells #[.string K] 9))
  have hrow := h2.rows _ (List.mem_cons_self ..)
  obtain ⟨i0, hi0, hz0, hzs, hzb⟩ := info_parts info9Z
  obtain ⟨v', w', hr, hown', hgr, -, hloc⟩ := run_append_own_at (P := Try.prog) (w.alloc (.cells #[.string K] 9)) w0.heap.size 45 45 9 i0 _ 1 16 Try.underlying45 hi0 hz0 hzs hzb rfl (by omega) v n _ hrow ⟨w.heap.size, 0, none⟩ 1 1 [.string K] rfl
    (fun j u hj => by
      have h1 : j < 1 := by
        have := (List.getElem?_eq_some_iff.1 hj).1
        simpa using this
      obtain rfl : j = 0 := by omega
      rw [show (⟨w.heap.size, 0, none⟩ : Addr).add 0 = ⟨w.heap.size, 0, none⟩ by unfold Addr.add; split <;> simp_all, World.cell?_alloc_at _ _ _ _ (by simp)]
      simpa using hj) (by intro u hu; simp at hu; subst hu; rfl) (by unfold maxLen; omega) (by omega) h2.below.size
  have hown2 : Rw.At ⟨v', 9, 1, n + 1, xs ++ [.string K]⟩ w0.heap.size w' := hown'
  have hC := h2.grown hown2 hgr (fun b hb => by
    rcases hloc with e | e
    · exact .inl (e ▸ hb)
    · simp only at hb
      rw [e] at hb
      injection hb with hb
      exact .inr (by omega))
  obtain ⟨⟨a', c', he⟩, -⟩ := row_form hown'
  subst he
  exact ⟨a', c', w', hr, hC⟩

def qt : List UInt8 := [63]
def bt : List UInt8 := [33]
def xt : List UInt8 := [120]
def yt : List UInt8 := [121]
/-- A row whose first i cells have been written. -/
def over (c : List UInt8) (i : Nat) (ks : List (List UInt8)) : List Value := List.replicate i (encStr c) ++ (ks.map encStr).drop i
theorem over_zero (c : List UInt8) (ks : List (List UInt8)) : over c 0 ks = ks.map encStr := rfl
theorem over_len (c : List UInt8) {ks : List (List UInt8)} {L : Nat} (h : ks.length = L) : over c L ks = List.replicate L (encStr c) := by
  unfold over
  rw [List.drop_eq_nil_of_le (by simp; omega), List.append_nil]
theorem over_set (c : List UInt8) {ks : List (List UInt8)} {i : Nat} (h : i < ks.length) : (over c i ks).set i (encStr c) = over c (i + 1) ks := by
  unfold over
  rw [List.set_append_right _ _ (by simp), List.length_replicate, Nat.sub_self, List.replicate_succ', List.append_assoc]
  rw [List.drop_eq_getElem_cons (by simpa using h)]
  rfl

set_option maxHeartbeats 4000000 in
set_option maxRecDepth 100000 in
theorem own_any (a : Option Addr) (b off len cap N : Nat) (o : Nat → Int × Int × Int) (k : Int) (w : World) (hN : Hid (N = min len 100))
    (HC : Hid (∀ i, i < len → a = some ⟨b, off, none⟩ ∧ w.cell? ⟨b, off + i * 3, none⟩ = some (.int .i64 (o i).1) ∧ w.cell? ⟨b, off + i * 3 + 1, none⟩ = some (.int .i64 (o i).2.1) ∧ w.cell? ⟨b, off + i * 3 + 2, none⟩ = some (.int .i64 (o i).2.2))) :
    Calls Try.prog 6 #[.slice a len cap, .int .i64 k] w fun e w' => e = .returned (.bool true) ∧ Below w.heap.size w w' := by
  go_enter Try.func6, Try.ntmps6
  go_wp2_with fail
  refine (filled_any a b off len cap N o w hN HC).mono ?_
  rintro e w1 ⟨p, rfl, H1⟩
  go_wp2_with fail
  refine (awake_any w1).mono ?_
  rintro e w2 ⟨rfl, hb2⟩
  obtain ⟨S, hS, hT, -⟩ := unhide H1
  have HS2 : Hid (SideZ w p S [] w2) := hS.side.step hb2
  clear hS H1 hb2
  go_wp2_with fail
  refine (name_any k w2).mono ?_
  rintro e w3 ⟨rfl, hb3⟩
  have CA := hide (addAnySZ (nm k) ((unhide HS2).step hb3) (ok_nm k) hT (by omega))
  clear hb3 HS2 hT
  go_wp2_with fail
  refine (unhide CA).mono ?_
  rintro e w4 ⟨bb, rfl, H4⟩
  obtain ⟨S4, hS4, hT4, ⟨x, hx, hkx⟩, -⟩ := unhide H4
  have HS4 := hide hS4
  have HT4 : Hid (tot S4 < 1099511627776) := by show _ < _; omega
  have HX := hide (And.intro hx hkx)
  have HL1 : Hid (x.ks.length ≤ 301 ∧ 0 < x.ks.length) := ⟨by have := len_le_tot hx; omega, List.length_pos_iff.2 (fun e => by rw [e] at hkx; cases hkx)⟩
  have HT41 : Hid (tot S4 ≤ 301) := hT4
  clear CA H4 hS4 hT4 hx hkx
  go_wp2_with fail
  refine (name_any k w4).mono ?_
  rintro e w5 ⟨rfl, hb5⟩
  have CM := hide (membersSZ (nm k) ((unhide HS4).step hb5) (unhide HX).1 (unhide HX).2 (unhide HT4))
  clear hb5 HS4
  go_wp2_with fail
  refine (unhide CM).mono ?_
  rintro e w6 ⟨v1, rfl, HS6⟩
  clear CM
  go_wp2_with fail
  refine (name_any k w6).mono ?_
  rintro e w7 ⟨rfl, hb7⟩
  have CM := hide (membersSZ (nm k) ((unhide HS6).step hb7) (unhide HX).1 (unhide HX).2 (unhide HT4))
  clear hb7 HS6
  go_wp2_with fail
  refine (unhide CM).mono ?_
  rintro e w8 ⟨v2, rfl, HS8⟩
  have CH := hide (headsSZ (unhide HS8) (unhide HT4))
  clear CM HS8
  go_wp2_with fail
  refine (unhide CH).mono ?_
  rintro e w9 ⟨v3, rfl, HS9⟩
  obtain ⟨ys, hy, hS9⟩ := unhide HS9
  have HY := hide hy
  have CH := hide (headsSZ hS9 (unhide HT4))
  clear HS9 hS9 hy
  go_wp2_with fail
  refine (unhide CH).mono ?_
  rintro e w10 ⟨v4, rfl, HS10⟩
  obtain ⟨ys', hy, hS10⟩ := unhide HS10
  obtain rfl := (unhide HY).one hy
  clear CH hy HS10
  obtain ⟨L1, hL1⟩ : ∃ L1, x.ks.length = L1 := ⟨_, rfl⟩
  obtain ⟨L2, hL2⟩ : ∃ L2, ys.length = L2 := ⟨_, rfl⟩
  rw [hL1] at HL1
  have HE1 := hide hL1
  have HE2 := hide hL2
  have hL1b := (unhide HL1).1
  have hL1p := (unhide HL1).2
  have hL2b : L2 ≤ 301 := by have := (unhide HY).len hS10.fam; have := unhide HT41; omega
  have hS11 : SideZ w p S4 [⟨v1, 9, 1, L1, over qt 0 x.ks⟩, ⟨v3, 9, 1, L2, over bt 0 ys⟩, ⟨v2, 9, 1, L1, x.ks.map encStr⟩, ⟨v4, 9, 1, L2, ys.map encStr⟩] w10 := by
    refine hS10.perm ?_
    unfold rwZ
    rw [hL1, hL2, over_zero, over_zero]
    exact (List.perm_append_comm (l₁ := [_, _]) (l₂ := [_, _])).trans ((List.Perm.swap _ _ _).trans (List.Perm.cons _ ((List.perm_append_comm (l₁ := [_]) (l₂ := [_, _])).trans ((List.Perm.swap _ _ _).trans (List.Perm.cons _ (List.Perm.swap _ _ _))))))
  have HS11 := hide hS11
  obtain ⟨⟨a1, c1, he1⟩, -⟩ := row_form (hS11.rows ⟨v1, 9, 1, L1, over qt 0 x.ks⟩ (by simp))
  obtain ⟨⟨a2, c2, he2⟩, -⟩ := row_form (hS11.rows ⟨v2, 9, 1, L1, x.ks.map encStr⟩ (by simp))
  obtain ⟨⟨a3, c3, he3⟩, -⟩ := row_form (hS11.rows ⟨v3, 9, 1, L2, over bt 0 ys⟩ (by simp))
  obtain ⟨⟨a4, c4, he4⟩, -⟩ := row_form (hS11.rows ⟨v4, 9, 1, L2, ys.map encStr⟩ (by simp))
  simp only at he1 he2 he3 he4
  subst he1 he2 he3 he4
  clear hS10 hS11 hL1 hL2 HL1 HT41
  go_wp2_with fail
  go_loopw [43] (fun s43 wr => ∃ i : Nat, i ≤ L1 ∧ s43 = .int .i64 i ∧ Hid (SideZ w p S4 [⟨.slice a1 L1 c1, 9, 1, L1, over qt i x.ks⟩, ⟨.slice a3 L2 c3, 9, 1, L2, over bt 0 ys⟩, ⟨.slice a2 L1 c2, 9, 1, L1, x.ks.map encStr⟩, ⟨.slice a4 L2 c4, 9, 1, L2, ys.map encStr⟩] wr)) (fun s43 _ => L1 - (intOf s43).toNat)
  case atStart => exact ⟨0, Nat.zero_le _, rfl, unhide HS11⟩
  case round =>
    obtain ⟨i, hi, rfl, HS12⟩ := hrel
    rename World => wo
    by_cases hil : i < L1
    · have hiz : (i : Int) < (L1 : Int) := by omega
      have hS := unhide HS12
      obtain ⟨g, c, u, he, hg, hcell, -, hfr⟩ := (row_form (hS.rows ⟨.slice a1 L1 c1, 9, 1, L1, over qt i x.ks⟩ (by simp))).2 i hil
      simp only at he
      injection he with he1 he2 he3
      subst he1
      have hst := hS.stored i (encStr qt)
      rw [over_set qt (by rw [unhide HE1]; exact hil)] at hst
      have HST := hide hst
      clear he2 he3 hS hst HS12 HS11 HY HX HT4
      go_wp2_with fail
      go_roundw
      case rel => exact ⟨i + 1, by omega, by go_num, unhide HST⟩
      case measure => simp [intOf]; omega
    · have hiz : ¬ (i : Int) < (L1 : Int) := by omega
      obtain rfl : i = L1 := by omega
      rw [over_len qt (unhide HE1)] at HS12
      have HS13 : Hid (SideZ w p S4 [⟨.slice a3 L2 c3, 9, 1, L2, over bt 0 ys⟩, ⟨.slice a1 i c1, 9, 1, i, List.replicate i (encStr qt)⟩, ⟨.slice a2 i c2, 9, 1, i, x.ks.map encStr⟩, ⟨.slice a4 L2 c4, 9, 1, L2, ys.map encStr⟩] wo) := (unhide HS12).perm (List.Perm.swap _ _ _)
      clear HS12 HS11
      go_wp2_with fail
      go_loopw [52] (fun s52 wr => ∃ j : Nat, j ≤ L2 ∧ s52 = .int .i64 j ∧ Hid (SideZ w p S4 [⟨.slice a3 L2 c3, 9, 1, L2, over bt j ys⟩, ⟨.slice a1 i c1, 9, 1, i, List.replicate i (encStr qt)⟩, ⟨.slice a2 i c2, 9, 1, i, x.ks.map encStr⟩, ⟨.slice a4 L2 c4, 9, 1, L2, ys.map encStr⟩] wr)) (fun s52 _ => L2 - (intOf s52).toNat)
      case atStart => exact ⟨0, Nat.zero_le _, rfl, unhide HS13⟩
      case round =>
        obtain ⟨j, hj, rfl, HS14⟩ := hrel
        rename World => w14
        by_cases hjl : j < L2
        · have hjz : (j : Int) < (L2 : Int) := by omega
          have hS := unhide HS14
          obtain ⟨g, c, u, he, hg, hcell, -, hfr⟩ := (row_form (hS.rows ⟨.slice a3 L2 c3, 9, 1, L2, over bt j ys⟩ (by simp))).2 j hjl
          simp only at he
          injection he with he1 he2 he3
          subst he1
          have hst := hS.stored j (encStr bt)
          rw [over_set bt (by rw [unhide HE2]; exact hjl)] at hst
          have HST := hide hst
          clear he2 he3 hS hst HS14 HS13 HY HX HT4
          go_wp2_with fail
          go_roundw
          case rel => exact ⟨j + 1, by omega, by go_num, unhide HST⟩
          case measure => simp [intOf]; omega
        · have hjz : ¬ (j : Int) < (L2 : Int) := by omega
          obtain rfl : j = L2 := by omega
          rw [over_len bt (unhide HE2)] at HS14
          have HS15 : Hid (SideZ w p S4 [⟨.slice a1 i c1, 9, 1, i, List.replicate i (encStr qt) ++ List.replicate 0 (encStr xt)⟩, ⟨.slice a3 j c3, 9, 1, j, List.replicate j (encStr bt) ++ List.replicate 0 (encStr yt)⟩, ⟨.slice a2 i c2, 9, 1, i, x.ks.map encStr⟩, ⟨.slice a4 j c4, 9, 1, j, ys.map encStr⟩] w14) := by
            rw [List.replicate_zero, List.replicate_zero, List.append_nil, List.append_nil]
            exact (unhide HS14).perm (List.Perm.swap _ _ _)
          clear HS13 HS14
          go_wp2_with fail
          go_loopw [6, 8, 12] (fun s6 s8 s12 wr => ∃ (n n1 n3 : Nat) (b1 b3 : Option Addr) (d1 d3 : Nat), n ≤ 20 ∧ s12 = .int .i64 n ∧ n1 = i + n ∧ n3 = j + n ∧ s6 = .slice b1 n1 d1 ∧ s8 = .slice b3 n3 d3 ∧ Hid (SideZ w p S4 [⟨.slice b1 n1 d1, 9, 1, n1, List.replicate i (encStr qt) ++ List.replicate n (encStr xt)⟩, ⟨.slice b3 n3 d3, 9, 1, n3, List.replicate j (encStr bt) ++ List.replicate n (encStr yt)⟩, ⟨.slice a2 i c2, 9, 1, i, x.ks.map encStr⟩, ⟨.slice a4 j c4, 9, 1, j, ys.map encStr⟩] wr)) (fun _ _ s12 _ => 20 - (intOf s12).toNat)
          case atStart => exact ⟨0, i, j, a1, a3, c1, c3, Nat.zero_le _, rfl, rfl, rfl, rfl, rfl, unhide HS15⟩
          case round =>
            obtain ⟨n, n1, n3, b1, b3, d1, d3, hn, rfl, hn1, hn3, rfl, rfl, HS16⟩ := hrel
            rename World => w16
            by_cases hnl : n < 20
            · have hnz : (n : Int) < 20 := by omega
              have hn1b : n1 < 1000000 := by omega
              have hn3b : n3 < 1000000 := by omega
              obtain ⟨b1', d1', w17, hr1, h17⟩ := (unhide HS16).append ⟨xt.toArray⟩ hn1b
              have h18 := h17.perm (List.Perm.swap _ _ _)
              obtain ⟨b3', d3', w19, hr2, h19⟩ := h18.append ⟨yt.toArray⟩ hn3b
              have h20 := h19.perm (List.Perm.swap _ _ _)
              rw [List.append_assoc, List.append_assoc, show (Value.string ⟨xt.toArray⟩) = encStr xt from rfl, show (Value.string ⟨yt.toArray⟩) = encStr yt from rfl, ← List.replicate_succ', ← List.replicate_succ'] at h20
              have HR1 := hide hr1
              have HR2 := hide hr2
              have HS20 := hide h20
              have HN1 := hide hn1
              have HN3 := hide hn3
              clear hn1 hn3 hr1 hr2 h17 h18 h19 h20 HS16 HS15 HY HX HT4 hn1b hn3b
              go_wp2_with (at_builtin; first | refine Lib.wpList_append_run _ rfl _ _ 45 45 rfl (.slice b1 n1 d1) (.slice (some ⟨w16.heap.size, 0, none⟩) 1 1) rfl rfl _ _ HR1.out ?_ | refine Lib.wpList_append_run _ rfl _ _ 45 45 rfl (.slice b3 n3 d3) (.slice (some ⟨w17.heap.size, 0, none⟩) 1 1) rfl rfl _ _ HR2.out ?_)
              go_roundw
              case rel => exact ⟨n + 1, n1 + 1, n3 + 1, b1', b3', d1', d3', by omega, by go_num, by have := unhide HN1; omega, by have := unhide HN3; omega, rfl, rfl, unhide HS20⟩
              case measure => simp [intOf]; omega
            · have hnz : ¬ (n : Int) < 20 := by omega
              obtain rfl : n = 20 := by omega
              have hq1 : (i : Int) < (n1 : Int) := by omega
              have hq3 : (j : Int) < (n3 : Int) := by omega
              have HN1 := hide hn1
              have HN3 := hide hn3
              clear hn1 hn3 hn hnz HS15
              have hz20 : ¬ (20 : Int) < 20 := by omega
              go_wp2_with fail
              refine (name_any k w16).mono ?_
              rintro e w21 ⟨rfl, hb21⟩
              have CM := hide (membersSZ (nm k) ((unhide HS16).step hb21) (unhide HX).1 (unhide HX).2 (unhide HT4))
              clear hb21 HS16
              go_wp2_with fail
              refine (unhide CM).mono ?_
              rintro e w22 ⟨v5, rfl, HS22⟩
              have CH := hide (headsSZ (unhide HS22) (unhide HT4))
              clear CM HS22
              go_wp2_with fail
              refine (unhide CH).mono ?_
              rintro e w23 ⟨v6, rfl, HS23⟩
              obtain ⟨ys', hy, hS23⟩ := unhide HS23
              obtain rfl := (unhide HY).one hy
              clear CH hy HS23
              have hS24 : SideZ w p S4 [⟨v6, 9, 1, j, ys.map encStr⟩, ⟨v5, 9, 1, i, x.ks.map encStr⟩, ⟨.slice b1 n1 d1, 9, 1, n1, List.replicate i (encStr qt) ++ List.replicate 20 (encStr xt)⟩, ⟨.slice b3 n3 d3, 9, 1, n3, List.replicate j (encStr bt) ++ List.replicate 20 (encStr yt)⟩, ⟨.slice a2 i c2, 9, 1, i, x.ks.map encStr⟩, ⟨.slice a4 j c4, 9, 1, j, ys.map encStr⟩] w23 := by
                unfold rwZ at hS23
                rwa [unhide HE1, unhide HE2] at hS23
              obtain ⟨⟨a5, c5, he5⟩, R5⟩ := row_form (hS24.rows ⟨v5, 9, 1, i, x.ks.map encStr⟩ (by simp))
              obtain ⟨⟨a6, c6, he6⟩, R6⟩ := row_form (hS24.rows ⟨v6, 9, 1, j, ys.map encStr⟩ (by simp))
              simp only at he5 he6
              subst he5 he6
              obtain ⟨-, R1⟩ := row_form (hS24.rows ⟨.slice b1 n1 d1, 9, 1, n1, List.replicate i (encStr qt) ++ List.replicate 20 (encStr xt)⟩ (by simp))
              obtain ⟨-, R3⟩ := row_form (hS24.rows ⟨.slice b3 n3 d3, 9, 1, n3, List.replicate j (encStr bt) ++ List.replicate 20 (encStr yt)⟩ (by simp))
              obtain ⟨-, R2⟩ := row_form (hS24.rows ⟨.slice a2 i c2, 9, 1, i, x.ks.map encStr⟩ (by simp))
              obtain ⟨-, R4⟩ := row_form (hS24.rows ⟨.slice a4 j c4, 9, 1, j, ys.map encStr⟩ (by simp))
              have HBB := hide hS24.below
              simp only at R1 R2 R3 R4 R5 R6
              obtain ⟨g1, e1, u1, f1, -, k1, l1, -⟩ := R1 i (by omega)
              obtain ⟨g3, e3, u3, f3, -, k3, l3, -⟩ := R3 j (by omega)
              injection f1 with f11 f12 f13
              injection f3 with f31 f32 f33
              subst f11 f13 f31 f33
              rw [List.getElem?_append_right (by simp)] at l1 l3
              simp at l1 l3
              subst l1 l3
              have H1 : Hid (∀ y, y < i → w23.cell? ⟨g1, y, none⟩ = some (encStr qt)) := fun y hy => by
                obtain ⟨g, c, u, he, -, hc, hl, -⟩ := R1 y (by omega)
                rw [List.getElem?_append_left (by simpa using hy)] at hl
                simp [hy] at hl
                simp at he
                rw [hl, he.1]
                exact hc
              have H3 : Hid (∀ y, y < j → w23.cell? ⟨g3, y, none⟩ = some (encStr bt)) := fun y hy => by
                obtain ⟨g, c, u, he, -, hc, hl, -⟩ := R3 y (by omega)
                rw [List.getElem?_append_left (by simpa using hy)] at hl
                simp [hy] at hl
                simp at he
                rw [hl, he.1]
                exact hc
              have H5 : Hid (∀ y, y < i → ∃ g g' u, a5 = some ⟨g, 0, none⟩ ∧ a2 = some ⟨g', 0, none⟩ ∧ w23.cell? ⟨g, y, none⟩ = some (encStr u) ∧ w23.cell? ⟨g', y, none⟩ = some (encStr u)) := fun y hy => by
                obtain ⟨g, c, u, he, -, hc, hl, -⟩ := R5 y hy
                obtain ⟨g', c', u', he', -, hc', hl', -⟩ := R2 y hy
                rw [hl] at hl'
                rw [List.getElem?_map, Option.map_eq_some_iff] at hl
                obtain ⟨s, -, hs⟩ := hl
                simp at he he' hl'
                exact ⟨g, g', s, he.1, he'.1, by rw [hs]; exact hc, by rw [hs, hl']; exact hc'⟩
              have H6 : Hid (∀ y, y < j → ∃ g g' u, a6 = some ⟨g, 0, none⟩ ∧ a4 = some ⟨g', 0, none⟩ ∧ w23.cell? ⟨g, y, none⟩ = some (encStr u) ∧ w23.cell? ⟨g', y, none⟩ = some (encStr u)) := fun y hy => by
                obtain ⟨g, c, u, he, -, hc, hl, -⟩ := R6 y hy
                obtain ⟨g', c', u', he', -, hc', hl', -⟩ := R4 y hy
                rw [hl] at hl'
                rw [List.getElem?_map, Option.map_eq_some_iff] at hl
                obtain ⟨s, -, hs⟩ := hl
                simp at he he' hl'
                exact ⟨g, g', s, he.1, he'.1, by rw [hs]; exact hc, by rw [hs, hl']; exact hc'⟩
              clear R1 R2 R3 R4 R5 R6 hS23 hS24 HY HX HT4 HE1 HE2 f12 f32
              have hi0 : ((i : Int) == 0) = false := by simp; omega
              go_wp2_with fail
              go_loopw [110] (fun s110 wr => ∃ y : Nat, y ≤ i ∧ s110 = .int .i64 y ∧ Hid (∃ q, wr = w23.drewN q)) (fun s110 _ => i - (intOf s110).toNat)
              case atStart => exact ⟨0, Nat.zero_le _, rfl, 0, rfl⟩
              case round =>
                obtain ⟨y, hy, rfl, HW⟩ := hrel
                rename World => wy
                by_cases hyl : y < i
                · have hyz : (y : Int) < (i : Int) := by omega
                  have hyz1 : (y : Int) < (n1 : Int) := by omega
                  have m1 := unhide H1 y hyl
                  obtain ⟨g, g', u, e1, e2, m2, m3⟩ := unhide H5 y hyl
                  subst e1 e2
                  clear H1 H3 H5 H6
                  have m1' : wy.cell? ⟨g1, y, none⟩ = some (encStr qt) := by obtain ⟨q, rfl⟩ := unhide HW; exact m1
                  have m2' : wy.cell? ⟨g, y, none⟩ = some (encStr u) := by obtain ⟨q, rfl⟩ := unhide HW; exact m2
                  have m3' : wy.cell? ⟨g', y, none⟩ = some (encStr u) := by obtain ⟨q, rfl⟩ := unhide HW; exact m3
                  have HW2 : Hid (∀ n, ∃ q, wy.drewN n = w23.drewN q) := fun n => by obtain ⟨q, rfl⟩ := unhide HW; exact ⟨q + n, by first | rfl | simp⟩
                  clear m1 m2 m3
                  go_upto_region 27 with fail
                  go_quiet (fail)
                  go_wp2_with fail
                  go_roundw
                  case rel => exact ⟨y + 1, by omega, by go_num, unhide HW2 _⟩
                  case measure => simp [intOf]; omega
                · have hyz : ¬ (y : Int) < (i : Int) := by omega
                  obtain rfl : y = i := by omega
                  go_wp2_with fail
                  go_loopw [132] (fun s132 wr => ∃ z : Nat, z ≤ j ∧ s132 = .int .i64 z ∧ Hid (∃ q, wr = w23.drewN q)) (fun s132 _ => j - (intOf s132).toNat)
                  case atStart => exact ⟨0, Nat.zero_le _, rfl, unhide HW⟩
                  case round =>
                    obtain ⟨z, hz, rfl, HW⟩ := hrel
                    rename World => wz
                    by_cases hzl : z < j
                    · have hzz : (z : Int) < (j : Int) := by omega
                      have hzz1 : (z : Int) < (n3 : Int) := by omega
                      have m1 := unhide H3 z hzl
                      obtain ⟨g, g', u, e1, e2, m2, m3⟩ := unhide H6 z hzl
                      subst e1 e2
                      clear H1 H3 H5 H6
                      have m1' : wz.cell? ⟨g3, z, none⟩ = some (encStr bt) := by obtain ⟨q, rfl⟩ := unhide HW; exact m1
                      have m2' : wz.cell? ⟨g, z, none⟩ = some (encStr u) := by obtain ⟨q, rfl⟩ := unhide HW; exact m2
                      have m3' : wz.cell? ⟨g', z, none⟩ = some (encStr u) := by obtain ⟨q, rfl⟩ := unhide HW; exact m3
                      have HW2 : Hid (∀ n, ∃ q, wz.drewN n = w23.drewN q) := fun n => by obtain ⟨q, rfl⟩ := unhide HW; exact ⟨q + n, by first | rfl | simp⟩
                      clear m1 m2 m3
                      go_upto_region 33 with fail
                      go_quiet (fail)
                      go_wp2_with fail
                      go_roundw
                      case rel => exact ⟨z + 1, by omega, by go_num, unhide HW2 _⟩
                      case measure => simp [intOf]; omega
                    · have hzz : ¬ (z : Int) < (j : Int) := by omega
                      have HB2 : Hid (Below w.heap.size w wz) := by obtain ⟨q, rfl⟩ := unhide HW; exact below_drewN (unhide HBB) q
                      clear HW H1 H3 H5 H6 HBB
                      go_wp2_with fail
                      go_ret
                      exact ⟨rfl, unhide HB2⟩
end Go.Proofs.Ytfhidghjmookhaa
