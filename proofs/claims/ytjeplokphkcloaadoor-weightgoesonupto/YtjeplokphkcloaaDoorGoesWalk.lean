/- The walk of bramblelaw01.WeightGoesOn. -/
import Derived.Test.YtjeplokphkcloaaDoorFoldsWalk
import Derived.Test.YtjeplokphkcloaaDoorWords
namespace Go.Proofs.YtjeplokphkcloaaDoor
open Go.RowKit

/-- An owned row of floats, folded. -/
theorem fold_owned {w : World} {B n : Nat} {v : Value} {bs : List Nat} (h : w.ownsRow B 24 1 v n (flts bs)) (hn : bs.length = n) (hl : n ≤ 35184372087808) (HB : Hid (∀ k, bs.getD k 0 < 4294967296)) :
    Calls Tryd.prog 19 #[v] w fun e w' => e = .returned (.float .f32 (M.foldN bs)) ∧ w' = w := by
  by_cases h0 : n = 0
  · subst h0
    obtain rfl : bs = [] := List.eq_nil_of_length_eq_zero hn
    obtain ⟨-, ⟨rfl, -⟩ | ⟨g, cap, cur, rfl, -⟩⟩ := h
    · exact fold_zero _ _ _
    · exact fold_zero _ _ _
  · obtain ⟨g, cap, rfl, hc⟩ := owned_cells h hn (by omega)
    exact fold_some g 0 n cap bs w hn (by omega) hc HB

theorem words_len {w : World} {a : Option Addr} {len : Nat} {bs : List Nat} (h : IsWords w a len bs) : bs.length = len := by
  rcases h with ⟨rfl, rfl⟩ | ⟨b, off, rfl, h0, hlen, hc, hB⟩
  · rfl
  · exact hlen
theorem words_lt {w : World} {a : Option Addr} {len : Nat} {bs : List Nat} (h : IsWords w a len bs) (k : Nat) : bs.getD k 0 < 4294967296 := by
  rcases h with ⟨rfl, rfl⟩ | ⟨b, off, rfl, h0, hlen, hc, hB⟩
  · simp
  · exact hB k
theorem words_at {w : World} {a : Option Addr} {len : Nat} {bs : List Nat} (h : IsWords w a len bs) (h0 : 0 < len) :
    ∃ b off, a = some ⟨b, off, none⟩ ∧ b < w.heap.size ∧ ∀ k, k < len → w.cell? ⟨b, off + k, none⟩ = some (.int .u32 (bs.getD k 0 : Int)) := by
  rcases h with ⟨rfl, rfl⟩ | ⟨b, off, rfl, _, hlen, hc, hB⟩
  · omega
  · exact ⟨b, off, rfl, World.block_lt_of_cell? _ _ (hc 0 h0), hc⟩

theorem flts_take2 (bs cs : List Nat) (k : Nat) (h : k < cs.length) : flts (bs ++ cs.take (k + 1)) = flts (bs ++ cs.take k) ++ [.float .f32 (cs.getD k 0)] := by
  have := flts_take cs k h
  unfold flts at this ⊢
  rw [List.map_append, List.map_append, this, List.append_assoc]
theorem foldN_take2 (bs cs : List Nat) (k : Nat) (h : k < cs.length) : M.foldN (bs ++ cs.take (k + 1)) = M.addC (M.foldN (bs ++ cs.take k)) (M.counts (cs.getD k 0)) := by
  rw [List.take_succ_eq_append_getElem h, ← List.append_assoc, M.foldN_snoc]; simp [h]
theorem words_lt2 {bs cs : List Nat} (h0 : ∀ k, bs.getD k 0 < 4294967296) (h1 : ∀ k, cs.getD k 0 < 4294967296) (k : Nat) : (bs ++ cs).getD k 0 < 4294967296 := by
  by_cases h : k < bs.length
  · have := h0 k
    simpa [List.getD, List.getElem?_append_left h] using this
  · have := h1 (k - bs.length)
    simpa [List.getD, List.getElem?_append_right (Nat.le_of_not_lt h)] using this

theorem getD_left {bs cs : List Nat} {k : Nat} (h : k < bs.length) : (bs ++ cs).getD k 0 = bs.getD k 0 := by
  simp [List.getD, List.getElem?_append_left h]
theorem getD_right {bs cs : List Nat} {n j : Nat} (h : bs.length = n) : (bs ++ cs).getD (n + j) 0 = cs.getD j 0 := by
  subst h
  simp [List.getD, List.getElem?_append_right (Nat.le_add_right _ _)]

set_option maxHeartbeats 4000000 in
theorem goes_any (a0 a1 : Option Addr) (len0 cap0 len1 cap1 : Nat) (bs cs : List Nat) (w : World) (hw0 : IsWords w a0 len0 bs) (hw1 : IsWords w a1 len1 cs) (hl0 : len0 ≤ 1048576) (hl1 : len1 ≤ 1048576) (hc : w.cell? ⟨4, 15, none⟩ = some (.int .u8 4)) :
    Calls Tryd.prog 8 #[.slice a0 len0 cap0, .slice a1 len1 cap1] w fun e w' => e = .returned (.bool true) ∧ Below w.heap.size w w' := by
  have h4 : 4 < w.heap.size := World.block_lt_of_cell? _ _ hc
  have W0 := hide hw0
  have W1 := hide hw1
  have hx := run_tobits
  clear hw0 hw1
  obtain ⟨i0, hi, hz0, hz1, hz2⟩ := info_parts info24
  go_enter Tryd.func8, Tryd.ntmps8
  go_wp2_with fail
  refine (awake_any _ hc h4).mono ?_
  rintro e w' ⟨rfl, A, rfl⟩
  go_wp2_with fail
  go_loopw [5, 15] (fun v i wr => ∃ k : Nat, k ≤ len0 ∧ i = .int .i64 (k : Int) ∧ wr.ownsRow w.heap.size 24 1 v k (flts (bs.take k)) ∧ Below w.heap.size w wr) (fun _ i _ => len0 - (intOf i).toNat)
  case atStart => exact ⟨0, Nat.zero_le _, rfl, World.ownsRow_nil _ _ _ _, (Below.refl _ _).alloc (Nat.le_refl _) _⟩
  case round =>
    obtain ⟨k, hk, rfl, hown, hnx⟩ := hrel
    have hsz := hnx.size
    by_cases hlt : k < len0
    · obtain ⟨b, off, rfl, hbB, hcl⟩ := words_at (unhide W0) (by omega)
      have hcx : wr.cell? ⟨b, off + k, none⟩ = some (.int .u32 (bs.getD k 0 : Int)) := (hnx.cell (by exact hbB)).trans (hcl k hlt)
      have HT := hide (flts_take bs k (by rw [words_len (unhide W0)]; exact hlt))
      generalize bs.getD k 0 = x at hcx HT
      clear hcl
      go_wp2_with fail
      refine (float_nat x _).mono ?_
      rintro e w' ⟨rfl, rfl⟩
      go_wp2_with (at_builtin; refine wpList_append_own _ rfl _ _ 40 rfl w.heap.size 24 i0 (.float .f32 0) 1 4 Tryd.underlying40 hi hz0 hz1 hz2 rfl (by decide) _ _ _ rfl (hown.alloc _) ⟨w'.heap.size, 0, none⟩ 1 1 [.float .f32 x] rfl rfl ?c1 ?c2 ?c3 ?c4 ?c5 ?_)
      case c1 =>
        intro j u hj
        match j, hj with
        | 0, hj => simp at hj; subst hj; simp [Addr.add]
      case c2 => intro u hu; simp at hu; subst hu; rfl
      case c3 => unfold maxLen; omega
      case c4 => omega
      case c5 => simp; omega
      intro v' w1 hown' hgrow _
      have hb1 : Below w.heap.size w w1 := (hnx.alloc hsz _).grown hgrow (by simp; omega) (fun k hk => (hown.lt k hk).1)
      rw [← unhide HT] at hown'
      clear hgrow hown hcx hnx hsz
      go_wp2
      go_roundw
      case rel => exact ⟨k + 1, by omega, by go_num, hown', hb1⟩
      case measure => simp [intOf]; omega
    · have e : k = len0 := by omega
      have e2 : bs.take k = bs := by rw [e, ← words_len (unhide W0), List.take_length]
      rw [e2, e] at hown
      clear e2 e
      have HF := hide (fold_owned hown (words_len (unhide W0)) (by omega) (hide (words_lt (unhide W0))))
      have HO := hide hown
      have HN := hide hnx
      clear hown hnx hsz
      go_wp2_with fail
      refine (unhide HF).mono ?_
      rintro e w' ⟨rfl, rfl⟩
      clear hlt hk
      go_wp2_with fail
      go_loopw [5, 7, 31] (fun v c i wr => ∃ k : Nat, k ≤ len1 ∧ i = .int .i64 (k : Int) ∧ c = .float .f32 (M.foldN (bs ++ cs.take k)) ∧ wr.ownsRow w.heap.size 24 1 v (len0 + k) (flts (bs ++ cs.take k)) ∧ Below w.heap.size w wr) (fun _ _ i _ => len1 - (intOf i).toNat)
      case atStart => exact ⟨0, Nat.zero_le _, rfl, by simp, by simpa using unhide HO, unhide HN⟩
      case round =>
        obtain ⟨j, hj, rfl, rfl, hown, hnx⟩ := hrel
        have hsz := hnx.size
        by_cases hlt : j < len1
        · obtain ⟨b, off, rfl, hbB, hcl⟩ := words_at (unhide W1) (by omega)
          have hcx : wr.cell? ⟨b, off + j, none⟩ = some (.int .u32 (cs.getD j 0 : Int)) := (hnx.cell (by exact hbB)).trans (hcl j hlt)
          have hbw : b < wr.heap.size := Nat.lt_of_lt_of_le hbB hsz
          have HT := hide (flts_take2 bs cs j (by rw [words_len (unhide W1)]; exact hlt))
          have HD := hide (foldN_take2 bs cs j (by rw [words_len (unhide W1)]; exact hlt))
          have hxl := words_lt (unhide W1) j
          have hle := M.foldN_le (bs ++ cs.take j)
          generalize cs.getD j 0 = x at hcx HT HD hxl
          generalize M.foldN (bs ++ cs.take j) = c at hle HD ⊢
          have HS := hide (fold_step hle hxl)
          clear hcl hle hxl
          go_wp2_with fail
          refine (float_nat x _).mono ?_
          rintro e w' ⟨rfl, rfl⟩
          go_wp2_with (at_builtin; refine wpList_append_own _ rfl _ _ 40 rfl w.heap.size 24 i0 (.float .f32 0) 1 4 Tryd.underlying40 hi hz0 hz1 hz2 rfl (by decide) _ _ _ rfl (hown.alloc _) ⟨w'.heap.size, 0, none⟩ 1 1 [.float .f32 x] rfl rfl ?c1 ?c2 ?c3 ?c4 ?c5 ?_)
          case c1 =>
            intro j u hj
            match j, hj with
            | 0, hj => simp at hj; subst hj; simp [Addr.add]
          case c2 => intro u hu; simp at hu; subst hu; rfl
          case c3 => unfold maxLen; omega
          case c4 => omega
          case c5 => simp; omega
          intro v' w1 hown' hgrow _
          have hb1 : Below w.heap.size w w1 := (hnx.alloc hsz _).grown hgrow (by simp; omega) (fun k hk => (hown.lt k hk).1)
          rw [← unhide HT] at hown'
          have hcy : w1.cell? ⟨b, off + j, none⟩ = some (.int .u32 (x : Int)) := by
            rw [hb1.cell (by exact hbB), ← hnx.cell (by exact hbB)]; exact hcx
          clear hgrow hown hcx hnx hsz
          go_wp2_with fail
          refine (float_nat x _).mono ?_
          rintro e w' ⟨rfl, rfl⟩
          go_wp2_with fail
          refine (unhide HS _).mono ?_
          rintro e w' ⟨rfl, rfl⟩
          go_wp2
          go_roundw
          case rel => exact ⟨j + 1, by omega, by go_num, by rw [unhide HD], hown', hb1⟩
          case measure => simp [intOf]; omega
        · have e : j = len1 := by omega
          have e2 : cs.take j = cs := by rw [e, ← words_len (unhide W1), List.take_length]
          rw [e2, e] at hown
          rw [e2]
          clear e2 e
          have HF := hide (fold_owned hown (by simp [words_len (unhide W0), words_len (unhide W1)]) (by omega) (hide (words_lt2 (words_lt (unhide W0)) (words_lt (unhide W1)))))
          have HI := hide (fun w => is_same (M.foldN_le (bs ++ cs)) w)
          generalize M.foldN (bs ++ cs) = c at HF HI ⊢
          by_cases hn0 : len0 + len1 = 0
          · rw [hn0] at hown
            obtain ⟨x, y, hv⟩ : ∃ x y, u5 = .slice x 0 y := by
              obtain ⟨-, ⟨h, -⟩ | ⟨g, cap, cur, h, -⟩⟩ := hown
              · exact ⟨_, _, h⟩
              · exact ⟨_, _, h⟩
            subst hv
            clear hown hsz
            go_wp2_with fail
            refine (unhide HF).mono ?_
            rintro e w' ⟨rfl, rfl⟩
            go_wp2_with fail
            refine (unhide HI _).mono ?_
            rintro e w' ⟨rfl, rfl⟩
            clear hlt hj
            go_wp2_with fail
            refine wp_loop_rounds 1 ?_
            rw [rounds_succ]
            go_wp2
            go_ret
            exact ⟨rfl, hnx⟩
          · obtain ⟨g, cap', hv, hcl⟩ := owned_cells hown (by simp [words_len (unhide W0), words_len (unhide W1)]) (by omega)
            subst hv
            have HCL := hide hcl
            have HN2 := hide hnx
            clear hown hsz hcl hnx
            go_wp2_with fail
            refine (unhide HF).mono ?_
            rintro e w' ⟨rfl, rfl⟩
            go_wp2_with fail
            refine (unhide HI _).mono ?_
            rintro e w' ⟨rfl, rfl⟩
            clear hlt hj
            go_wp2_with fail
            go_loop [58] (fun i => ∃ k : Nat, k ≤ len0 + len1 ∧ i = .int .i64 (k : Int)) (fun i => len0 + len1 - (intOf i).toNat)
            case atStart => exact ⟨0, Nat.zero_le _, rfl⟩
            case round =>
              obtain ⟨k, hk, rfl⟩ := hrel
              by_cases hlt : k < len0 + len1
              · have hnx := unhide HN2
                have hcw := unhide HCL k hlt
                rw [Nat.zero_add] at hcw
                by_cases hk0 : k < len0
                · obtain ⟨b, off, rfl, hbB, hcl⟩ := words_at (unhide W0) (by omega)
                  have hcx := (hnx.cell (p := ⟨b, off + k, none⟩) (by exact hbB)).trans (hcl k hk0)
                  rw [getD_left (by rw [words_len (unhide W0)]; exact hk0)] at hcw
                  have HNN := hide (refNan_nat (bs.getD k 0))
                  generalize bs.getD k 0 = x at hcx hcw HNN
                  have hkn : k + 1 ≤ len0 + len1 := by omega
                  clear hcl hnx
                  cases hnan : M.nan x
                  · rw [hnan] at HNN
                    clear hnan
                    go_wp2_with fail
                    refine (unhide HNN _).mono ?_
                    rintro e w' ⟨rfl, rfl⟩
                    go_wp2
                    go_round
                    case rel => exact ⟨_, hkn, by go_num⟩
                    case measure => simp [intOf]; omega
                  · rw [hnan] at HNN
                    clear hnan
                    go_wp2_with fail
                    refine (unhide HNN _).mono ?_
                    rintro e w' ⟨rfl, rfl⟩
                    go_wp2
                    go_round
                    case rel => exact ⟨_, hkn, by go_num⟩
                    case measure => simp [intOf]; omega
                · obtain ⟨j, rfl⟩ : ∃ j, k = len0 + j := ⟨k - len0, by omega⟩
                  obtain ⟨b, off, rfl, hbB, hcl⟩ := words_at (unhide W1) (by omega)
                  have hj1 : j < len1 := by omega
                  have hcx := (hnx.cell (p := ⟨b, off + j, none⟩) (by exact hbB)).trans (hcl j hj1)
                  rw [getD_right (words_len (unhide W0))] at hcw
                  have HNN := hide (refNan_nat (cs.getD j 0))
                  generalize cs.getD j 0 = x at hcx hcw HNN
                  have hkn : len0 + j + 1 ≤ len0 + len1 := by omega
                  clear hcl hnx
                  cases hnan : M.nan x
                  · rw [hnan] at HNN
                    clear hnan
                    go_wp2_with fail
                    refine (unhide HNN _).mono ?_
                    rintro e w' ⟨rfl, rfl⟩
                    go_wp2
                    go_round
                    case rel => exact ⟨_, hkn, by go_num⟩
                    case measure => simp [intOf]; omega
                  · rw [hnan] at HNN
                    clear hnan
                    go_wp2_with fail
                    refine (unhide HNN _).mono ?_
                    rintro e w' ⟨rfl, rfl⟩
                    go_wp2
                    go_round
                    case rel => exact ⟨_, hkn, by go_num⟩
                    case measure => simp [intOf]; omega
              · go_wp2
                go_ret
                exact ⟨rfl, unhide HN2⟩
end Go.Proofs.YtjeplokphkcloaaDoor
