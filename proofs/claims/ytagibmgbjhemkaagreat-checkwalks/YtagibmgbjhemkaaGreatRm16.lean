/- The reference's Decode in the midst: memory, and what is known of the witness whose bytes these are. -/
import Derived.Test.YtagibmgbjhemkaaGreatEn16
import Derived.Test.YtagibmgbjhemkaaGreatRn16
import Derived.Test.YtagibmgbjhemkaaGreatMt16
import Derived.Laws.IdiomStrings
namespace Go.Proofs.YtagibmgbjhemkaaGreat

namespace W16
open Go.RowKit Go.Maps
theorem encP_app {w0 w w1 : World} {F T : Int} {u : Nat} {ev v v2 : Value} {es : List Int} {bs ys : List Nat} (h : EncP w0 F T u ev es w v bs) (g : Grows w.heap.size w (.slice none 0 0) w1 v2 ys) (he : Lies i64v w0 ev es) (hl : bs.length + ys.length ≤ 1000000) :
    ∃ a' n' c' w2, (∀ ty, (Builtin.append_ #[23, 23] ty #[v, v2]).run Tryz.prog w1 = .ok (.slice a' n' c') w2) ∧ EncP w0 F T u ev es w2 (.slice a' n' c') (bs ++ ys) := by
  have hb := below_grows g; have hr : ByRow (w0.heap.size + 1) w1 v bs := rrow_below h.1 hb; obtain ⟨a', n', c', w2, r, g1, g2, g3⟩ := run_appBs hr (Nat.le_trans h.room hb.size) (byrow_lies g.1) (by omega)
  have hg : Grows (w0.heap.size + 1) w v w2 (.slice a' n' c') (bs ++ ys) := ⟨g1, (turned_of_below hb).trans g2, fun b e => (g3 b e).imp id (fun q => Nat.le_trans hb.size q)⟩
  exact ⟨a', n', c', w2, r, h.grow hg he⟩
theorem encP_app1 {w0 w : World} {F T : Int} {u : Nat} {ev v : Value} {es : List Int} {bs : List Nat} (y : Nat) (h : EncP w0 F T u ev es w v bs) (he : Lies i64v w0 ev es) (hl : bs.length < 1000000) :
    ∃ a' n' c' w2, (∀ ty, (Builtin.append_ #[23, 23] ty #[v, .slice (some ⟨w.heap.size, 0, none⟩) 1 1]).run Tryz.prog (w.alloc (.cells #[.int .u8 (y : Nat)] 5)) = .ok (.slice a' n' c') w2) ∧ EncP w0 F T u ev es w2 (.slice a' n' c') (bs ++ [y]) := by
  obtain ⟨a', n', c', w2, r, g1, g2, g3⟩ := run_app1B y h.1 h.room hl; exact ⟨a', n', c', w2, r, h.grow ⟨g1, g2, g3⟩ he⟩
set_option maxHeartbeats 4000000 in
set_option maxRecDepth 100000 in
theorem encodeR {w : World} {ev : Value} (f t : Nat) (u : Nat) {es : List Int} (h : Lies i64v w ev es) (hg : Good ((f : Nat), (t : Nat), u, es)) :
    Calls Tryz.prog 36 #[.agg #[.int .i64 (f : Nat), .int .i64 (t : Nat), .int .u32 (u : Nat), ev]] w fun e w' => ∃ v', e = .returned v' ∧ Hid (ByRow w.heap.size w' v' (encWt ((f : Nat), (t : Nat), u, es)) ∧ Below w.heap.size w w') := by
  obtain ⟨g1, g2, g3, g4, g5⟩ := hg; simp only at g1 g2 g3 g4 g5; obtain ⟨a, c, hv⟩ := lies_shape h; obtain ⟨n, hn⟩ : ∃ n, n = es.length := ⟨_, rfl⟩; rw [← hn] at hv; subst hv; have HG : Hid ((f ≤ 2147483647 ∧ t ≤ 2147483647 ∧ u < 4294967296 ∧ n ≤ 1024 ∧ n = es.length) ∧ (∀ x ∈ es, 1 ≤ x ∧ x ≤ 1024) ∧ Lies i64v w (.slice a n c) es) := ⟨⟨by omega, by omega, g4, by omega, hn⟩, g5, h⟩
  have HP := hide (encP_start (F := (f : Nat)) (T := (t : Nat)) (u := u) h); clear h g1 g2 g3 g4 g5 hn; unfold oV at *
  go_enter Tryz.func36, Tryz.ntmps36
  go_upto_region 1 with fail
  have Lf : Hid ((nb f).length ≤ 5) := nb_len 4 f (by have := (unhide HG).1; omega)
  have Lt : Hid ((nb t).length ≤ 5) := nb_len 4 t (by have := (unhide HG).1; omega)
  have Ln : Hid ((nb n).length ≤ 2) := nb_len 1 n (by have := (unhide HG).1; omega)
  have CA := hide (numberR (n := f) ((w.alloc (oV (f : Nat) (t : Nat) u (.slice a n c))).alloc (.cells #[.int .u8 183] 5)) (by have := (unhide HG).1; omega))
  unfold oV at CA
  go_wp2_with fail
  refine (unhide CA).mono ?_
  rintro e x1 ⟨y1, rfl, HG1⟩
  obtain ⟨a1, n1, k1, w1, hr, hP⟩ := encP_app (unhide HP) (unhide HG1) (unhide HG).2.2 (by simp; try have := unhide Lf; try have := unhide Lt; try have := unhide Ln; simp at *; omega)
  have HR := hide hr; have HP1 := hide hP; clear hr hP CA HP HG1; have HP := HP1; clear HP1
  go_upto_region 2 with (at_builtin; refine Lib.wpList_append_run _ rfl _ _ 23 23 rfl _ _ rfl rfl _ _ (unhide HR _) ?_)
  clear HR; obtain ⟨c0, c1, c2, c3⟩ := oV_cells (unhide HP).2.1; have CA := hide (numberR (n := t) w1 (by have := (unhide HG).1; omega))
  go_wp2_with fail
  refine (unhide CA).mono ?_
  rintro e x2 ⟨y2, rfl, HG1⟩
  obtain ⟨a2, n2, k2, w2, hr, hP⟩ := encP_app (unhide HP) (unhide HG1) (unhide HG).2.2 (by simp; try have := unhide Lf; try have := unhide Lt; try have := unhide Ln; simp at *; omega)
  have HR := hide hr; have HP2 := hide hP; clear hr hP CA HP HG1; have HP := HP2; clear HP2
  go_upto_region 3 with (at_builtin; refine Lib.wpList_append_run _ rfl _ _ 23 23 rfl _ _ rfl rfl _ _ (unhide HR _) ?_)
  clear HR; clear c0 c1 c2 c3; obtain ⟨c0, c1, c2, c3⟩ := oV_cells (unhide HP).2.1; have hu := (unhide HG).1.2.2.1
  go_wp2_with fail
  clear c0 c1 c2 c3 hu; have HL2 : Hid ((([183] ++ nb f) ++ nb t).length ≤ 20) := by show _ ≤ 20; have := unhide Lf; have := unhide Lt; simp; omega
  obtain ⟨base, hbase⟩ : ∃ base, base = (([183] : List Nat) ++ nb f) ++ nb t := ⟨_, rfl⟩; have HBA := hide hbase; rw [← hbase] at HP HL2; clear hbase
  go_loopw [3, 4, 5] (fun s3 s4 s5 wr => ∃ (k q a' n' c' : _), s3 = .slice a' n' c' ∧ s4 = .int .i64 (q : Nat) ∧ s5 = .int .i64 (k : Nat) ∧ Hid (k ≤ 4 ∧ q = u / 256 ^ k ∧ EncP w (f : Nat) (t : Nat) u (.slice a n c) es wr (.slice a' n' c') (base ++ (bb u).take k))) (fun _ _ s5 _ => 4 - (intOf s5).toNat)
  case atStart => exact ⟨0, u, _, _, _, rfl, rfl, rfl, Nat.zero_le _, by simp, by rw [List.take_zero, List.append_nil]; exact unhide HP⟩
  case round =>
    obtain ⟨k, q, a', n', c', rfl, rfl, rfl, HI⟩ := hrel; obtain ⟨i1, i2, i3⟩ := unhide HI; have hl2 := unhide HL2
    by_cases hk4 : k < 4
    · have z1 : (k : Int) < 4 := by omega
      have hd : (bb u)[k]? = some (q % 256) := by
        have hk : k = 0 ∨ k = 1 ∨ k = 2 ∨ k = 3 := by omega
        rcases hk with rfl | rfl | rfl | rfl <;> subst i2 <;> simp [bb]
      obtain ⟨d, hdd⟩ : ∃ d, d = q % 256 := ⟨_, rfl⟩; obtain ⟨q2, hq2⟩ : ∃ q2, q2 = q / 256 := ⟨_, rfl⟩; obtain ⟨j, hj⟩ : ∃ j, j = k + 1 := ⟨_, rfl⟩; have ed : ((d : Nat) : Int) = (q : Int) % 256 := by omega
      have HQ : Hid (wrap64 ((q : Int) / 256) = (q2 : Int)) := by
        have : q ≤ u := by rw [i2]; exact Nat.div_le_self _ _
        have := (unhide HG).1; show wrap64 ((q : Int) / 256) = (q2 : Int); unfold wrap64; omega
      have zj : Hid ((k : Int) + 1 = (j : Int)) := by show (k : Int) + 1 = (j : Int); omega
      obtain ⟨a2, n2, c2, w6, hr, hP⟩ := encP_app1 d i3 (unhide HG).2.2 (by simp [bb]; omega)
      rw [ed] at hr; have HR := hide hr; have HJ : Hid (j ≤ 4 ∧ q2 = u / 256 ^ j ∧ EncP w (f : Nat) (t : Nat) u (.slice a n c) es w6 (.slice a2 n2 c2) (base ++ (bb u).take j) ∧ 4 - j < 4 - k) := by
        refine ⟨by omega, by rw [hj, Nat.pow_succ, ← Nat.div_div_eq_div_mul, ← i2]; exact hq2, ?_, by omega⟩
        have e : (bb u).take j = (bb u).take k ++ [d] := by rw [hj, List.take_add_one, hd, hdd]; rfl
        rw [e, ← List.append_assoc]; exact hP
      clear HI i1 i2 i3 hl2 hk4 hd hdd hq2 hj ed hr hP
      go_wp2_with (at_builtin; refine Lib.wpList_append_run _ rfl _ _ 23 23 rfl _ _ rfl rfl _ _ (unhide HR _) ?_)
      exact ⟨⟨j, q2, a2, n2, c2, rfl, by rw [unhide HQ], by rw [unhide zj], (unhide HJ).1, (unhide HJ).2.1, (unhide HJ).2.2.1⟩, by rw [unhide zj]; exact (unhide HJ).2.2.2⟩
    · obtain rfl : k = 4 := by omega
      have z1 : ¬ ((4 : Nat) : Int) < 4 := by omega
      have HP5 : Hid (EncP w (f : Nat) (t : Nat) u (.slice a n c) es wr (.slice a' n' c') (base ++ bb u)) := i3; clear HI i1 i2 i3 hl2 hk4 HP
      go_upto_region 9 with fail
      obtain ⟨c0, c1, c2, c3⟩ := oV_cells (unhide HP5).2.1; have CA := hide (numberR (n := n) wr (by have := (unhide HG).1; omega))
      go_wp2_with fail
      refine (unhide CA).mono ?_
      rintro e x3 ⟨y3, rfl, HG1⟩
      obtain ⟨a3, n3, k3, w3, hr, hP⟩ := encP_app (unhide HP5) (unhide HG1) (unhide HG).2.2 (by have := unhide HL2; have := unhide Ln; simp [bb] at *; omega)
      have HR := hide hr; have HP := hide hP; clear hr hP CA HG1 HP5 c0 c1 c2 c3
      go_upto_region 10 with (at_builtin; refine Lib.wpList_append_run _ rfl _ _ 23 23 rfl _ _ rfl rfl _ _ (unhide HR _) ?_)
      clear HR; have HL : Hid (((base ++ bb u) ++ nb n).length ≤ 100) := by show _ ≤ 100; have := unhide HL2; have := unhide Ln; simp [bb]; omega
      have HZ : Hid (∀ W V, EncP w (f : Nat) (t : Nat) u (.slice a n c) es W V (((base ++ bb u) ++ nb n) ++ encEs es) → ByRow w.heap.size W V (encWt ((f : Nat), (t : Nat), u, es)) ∧ Below w.heap.size w W) := fun W V h => by
        refine ⟨?_, h.2.2.2⟩; have e : encWt ((f : Nat), (t : Nat), u, es) = ((base ++ bb u) ++ nb n) ++ encEs es := by rw [unhide HBA]; simp [encWt, (unhide HG).1.2.2.2.2]
        rw [e]; exact rrow_low h.1 (by omega)
      generalize (base ++ bb u) ++ nb n = bas2 at *; clear HBA HL2
      go_wp2_with fail
      go_loopw [3, 6] (fun s3 s6 wr => ∃ (i a' n' c' : _), s3 = .slice a' n' c' ∧ s6 = .int .i64 (i : Nat) ∧ Hid (i ≤ n ∧ EncP w (f : Nat) (t : Nat) u (.slice a n c) es wr (.slice a' n' c') (bas2 ++ encEs (es.take i)))) (fun _ s6 _ => n - (intOf s6).toNat)
      case atStart => exact ⟨0, _, _, _, rfl, rfl, Nat.zero_le _, by rw [List.take_zero]; show EncP _ _ _ _ _ _ _ _ (bas2 ++ []); rw [List.append_nil]; exact unhide HP⟩
      case round =>
        obtain ⟨i, a', n', c', rfl, rfl, HI⟩ := hrel; obtain ⟨i1, i2⟩ := unhide HI; obtain ⟨⟨g1, g2, g3, g4, g5⟩, g6, g7⟩ := unhide HG; have hl0 := unhide HL; obtain ⟨c0, c1, c2, c3⟩ := oV_cells i2.2.1
        by_cases hlt : i < n
        · obtain ⟨x, hx⟩ : ∃ x, es[i]? = some x := ⟨_, List.getElem?_eq_getElem (by omega)⟩
          have hx2 := g6 x (List.mem_of_getElem? hx); obtain ⟨m, rfl⟩ := Int.eq_ofNat_of_zero_le (show 0 ≤ x by omega)
          obtain ⟨bq, off, rfl, k0⟩ := lies_at i2.2.2.1 hx; have z1 : (i : Int) < (n : Int) := by omega
          obtain ⟨j, hj⟩ : ∃ j, j = i + 1 := ⟨_, rfl⟩; have zw : Hid (wrap64 ((i : Int) + 1) = (j : Int)) := by show wrap64 ((i : Int) + 1) = (j : Int); unfold wrap64; omega
          have hll : (encEs (es.take i)).length ≤ i * 2 := by
            have := encEs_len (es.take i) (fun y hy => g6 y (List.mem_of_mem_take hy))
            rw [List.length_take] at this; omega
          have hm2 := nb_len 1 m (by omega)
          have CA := hide (numberR (n := m) wr (by omega))
          have HAP : Hid (∀ W V, Grows wr.heap.size wr (.slice none 0 0) W V (nb m) → ∃ a2 n2 c2 w2, (∀ ty, (Builtin.append_ #[23, 23] ty #[.slice a' n' c', V]).run Tryz.prog W = .ok (.slice a2 n2 c2) w2) ∧ j ≤ n ∧ EncP w (f : Nat) (t : Nat) u (.slice (some ⟨bq, off, none⟩) n c) es w2 (.slice a2 n2 c2) (bas2 ++ encEs (es.take j))) := fun W V hgr => by
            obtain ⟨a2, n2, c2, w2, r, hp⟩ := encP_app i2 hgr g7 (by rw [List.length_append]; omega)
            refine ⟨a2, n2, c2, w2, r, by omega, ?_⟩
            have e : es.take j = es.take i ++ [(m : Int)] := by rw [hj, List.take_add_one, hx]; rfl
            rw [e, encEs_append, ← List.append_assoc]; have e2 : encEs [(m : Int)] = nb m := by simp [encEs]
            rw [e2]; exact hp
          have HM : Hid (n - j < n - i) := by show n - j < n - i; omega
          unfold i64v at k0; clear HI i1 i2 g1 g2 g3 g4 g5 g6 g7 hl0 hlt hx hx2 hj hll hm2
          go_wp2_with fail
          refine (unhide CA).mono ?_
          rintro e x7 ⟨y7, rfl, HG7⟩
          obtain ⟨a2, n2, c2', w2, hr, u1, u2⟩ := unhide HAP _ _ (unhide HG7); have HR := hide hr; have HU := hide u2; clear hr u2 HG7 HAP CA c0 c1 c2 c3 k0
          go_wp2_with (at_builtin; refine Lib.wpList_append_run _ rfl _ _ 23 23 rfl _ _ rfl rfl _ _ (unhide HR _) ?_)
          exact ⟨⟨j, a2, n2, c2', rfl, by rw [unhide zw], u1, unhide HU⟩, by rw [unhide zw]; exact unhide HM⟩
        · have z1 : ¬ (i : Int) < (n : Int) := by omega
          have HA := hide (unhide HZ _ _ (by rw [List.take_of_length_le (by omega)] at i2; exact i2))
          clear HI i1 i2 g1 g2 g3 g4 g5 g6 g7 hl0 hlt
          go_wp2_with fail
          go_ret
          exact ⟨_, rfl, HA⟩
end W16

namespace W16
open Go.RowKit Go.Maps
def strB (bs : List Nat) : ByteArray := ⟨(bs.map UInt8.ofNat).toArray⟩
theorem ofNat_inj {x y : Nat} (hx : x < 256) (hy : y < 256) (h : UInt8.ofNat x = UInt8.ofNat y) : x = y := by
  have := congrArg UInt8.toNat h; simp only [UInt8.toNat_ofNat'] at this; omega
theorem map_inj : ∀ {a b : List Nat}, (∀ x ∈ a, x < 256) → (∀ x ∈ b, x < 256) → a.map UInt8.ofNat = b.map UInt8.ofNat → a = b
  | [], [], _, _, _ => rfl
  | [], _ :: _, _, _, h => by cases h
  | _ :: _, [], _, _, h => by cases h
  | x :: a, y :: b, ha, hb, h => by
    simp only [List.map_cons, List.cons.injEq] at h; rw [ofNat_inj (ha x (by simp)) (hb y (by simp)) h.1, map_inj (fun z hz => ha z (by simp [hz])) (fun z hz => hb z (by simp [hz])) h.2]
theorem strB_iff {a b : List Nat} (ha : ∀ x ∈ a, x < 256) (hb : ∀ x ∈ b, x < 256) : strB a = strB b ↔ a = b := by
  refine ⟨fun h => map_inj ha hb ?_, fun h => by rw [h]⟩
  have := congrArg (fun x : ByteArray => x.data.toList) h
  simpa [strB] using this
theorem convB {w : World} {v : Value} {bs : List Nat} (h : Lies u8v w v bs) (hb : ∀ x ∈ bs, x < 256) : (convert 23 9 v).run Tryz.prog w = .ok (.string (strB bs)) w := by
  obtain ⟨a, c, rfl, h1, h2, h3⟩ := h
  cases a with
  | none =>
    have h0 : bs.length = 0 := by have := h2 rfl; omega
    obtain rfl : bs = [] := List.eq_nil_of_length_eq_zero h0; rw [run_convert_bytes_string w _ _ 5 none _ c (by kernel_rfl) (by kernel_rfl) (by kernel_rfl)]
    simp [Conv.bytesToString, Sem.run_pure, strB]
    try rfl
  | some x =>
    have hc : ∀ j (hj : j < (bs.map UInt8.ofNat).length), w.cell? (x.add j) = some (.int .u8 ((bs.map UInt8.ofNat)[j].toNat : Int)) := fun j hj => by
      have hj' : j < bs.length := by simpa using hj
      rcases h3 with rfl | ⟨b, off, e, hh⟩
      · simp at hj'
      · injection e with e
        subst e; have := hh j bs[j] (List.getElem?_eq_getElem hj'); rw [add_off13, this]; have := hb bs[j] (List.getElem_mem hj'); simp only [List.getElem_map, UInt8.toNat_ofNat', u8v]; rw [Nat.mod_eq_of_lt (by omega)]
    have := run_convert_bytes_back (P := Tryz.prog) w 23 9 5 x c (bs.map UInt8.ofNat) (by kernel_rfl) (by kernel_rfl) (by kernel_rfl) hc
    rw [List.length_map] at this; exact this
end W16

namespace W16
open Go.RowKit Go.Maps
structure DS (w0 : World) (r0 b4 : Nat) (w : World) (F T : Int) (u : Nat) (ev : Value) (es : List Int) : Prop where
  lt : r0 = w0.heap.size ∧ b4 = w0.heap.size + 1
  res : w.heap[r0]? = some (oV 0 0 0 (.slice none 0 0))
  box : w.heap[b4]? = some (oV F T u ev)
  row : NRow (w0.heap.size + 2) w ev es
  bel : Below w0.heap.size w0 w
section
variable {w0 w w1 : World} {r0 b4 : Nat} {F T : Int} {u : Nat} {ev : Value} {es : List Int}
theorem DS.own (S : DS w0 r0 b4 w F T u ev es) : ev.ownBlock ≠ some b4 ∧ ev.ownBlock ≠ some r0 :=
  ⟨fun e => by have := (S.row.lt _ e).1; have := S.lt.2; omega, fun e => by have := (S.row.lt _ e).1; have := S.lt.1; omega⟩
theorem DS.drew (S : DS w0 r0 b4 w F T u ev es) : DS w0 r0 b4 w.drew F T u ev es := ⟨S.lt, S.res, S.box, S.row, S.bel.drew⟩
theorem DS.below (S : DS w0 r0 b4 w F T u ev es) (h : Below w.heap.size w w1) : DS w0 r0 b4 w1 F T u ev es :=
  ⟨S.lt, (h.block _ (heap_lt S.res)).trans S.res, (h.block _ (heap_lt S.box)).trans S.box, rrow_below S.row h, S.bel.trans (h.mono S.bel.size)⟩
theorem DS.put (S : DS w0 r0 b4 w F T u ev es) {i : Nat} {x : Value} {F' T' : Int} {u' : Nat} (e : (w.setCell ⟨b4, i, none⟩ x).heap[b4]? = some (oV F' T' u' ev)) : DS w0 r0 b4 (w.setCell ⟨b4, i, none⟩ x) F' T' u' ev es := by
  have ht : Turned (fun b => b = b4) w (w.setCell ⟨b4, i, none⟩ x) := turned_setCell w ⟨b4, i, none⟩ x rfl
  obtain ⟨l1, l2⟩ := S.lt; exact ⟨S.lt, (ht.block _ (heap_lt S.res) (by omega)).trans S.res, e, rrow_kept S.row (fun b e => ht.block b (S.row.lt b e).2 (fun q => S.own.1 (by rw [e, q]))), S.bel.setCell (by show w0.heap.size ≤ b4; omega) _⟩
theorem DS.put0 (S : DS w0 r0 b4 w F T u ev es) (x : Int) : DS w0 r0 b4 (w.setCell ⟨b4, 0, none⟩ (.int .i64 x)) x T u ev es := S.put ((heap_setCell_same w b4 0 _ _ _ S.box).trans rfl)
theorem DS.put1 (S : DS w0 r0 b4 w F T u ev es) (x : Int) : DS w0 r0 b4 (w.setCell ⟨b4, 1, none⟩ (.int .i64 x)) F x u ev es := S.put ((heap_setCell_same w b4 1 _ _ _ S.box).trans rfl)
theorem DS.put2 (S : DS w0 r0 b4 w F T u ev es) (x : Nat) : DS w0 r0 b4 (w.setCell ⟨b4, 2, none⟩ (.int .u32 (x : Nat))) F T x ev es := S.put ((heap_setCell_same w b4 2 _ _ _ S.box).trans rfl)
theorem DS.cells (S : DS w0 r0 b4 w F T u ev es) : (w.cell? ⟨b4, 0, none⟩ = some (.int .i64 F) ∧ w.cell? ⟨b4, 1, none⟩ = some (.int .i64 T) ∧ w.cell? ⟨b4, 2, none⟩ = some (.int .u32 (u : Nat)) ∧ w.cell? ⟨b4, 3, none⟩ = some ev) ∧ w.frozen? ⟨b4, 0, none⟩ = false ∧ w.frozen? ⟨b4, 1, none⟩ = false ∧ w.frozen? ⟨b4, 2, none⟩ = false ∧ w.frozen? ⟨b4, 3, none⟩ = false :=
  ⟨oV_cells S.box, frozen_of_row _ _ 0 _ _ S.box, frozen_of_row _ _ 1 _ _ S.box, frozen_of_row _ _ 2 _ _ S.box, frozen_of_row _ _ 3 _ _ S.box⟩
theorem DS.rcells (S : DS w0 r0 b4 w F T u ev es) : (w.cell? ⟨r0, 0, none⟩ = some (.int .i64 0) ∧ w.cell? ⟨r0, 1, none⟩ = some (.int .i64 0) ∧ w.cell? ⟨r0, 2, none⟩ = some (.int .u32 (0 : Nat)) ∧ w.cell? ⟨r0, 3, none⟩ = some (.slice none 0 0)) ∧ w.frozen? ⟨r0, 0, none⟩ = false ∧ w.frozen? ⟨r0, 1, none⟩ = false ∧ w.frozen? ⟨r0, 2, none⟩ = false ∧ w.frozen? ⟨r0, 3, none⟩ = false :=
  ⟨oV_cells S.res, frozen_of_row _ _ 0 _ _ S.res, frozen_of_row _ _ 1 _ _ S.res, frozen_of_row _ _ 2 _ _ S.res, frozen_of_row _ _ 3 _ _ S.res⟩
theorem DS.push (S : DS w0 r0 b4 w F T u ev es) (x : Int) (hl : es.length ≤ 2000) : ∃ a' n' c' w2, (∀ ty, (Builtin.append_ #[25, 25] ty #[ev, .slice (some ⟨w.heap.size, 0, none⟩) 1 1]).run Tryz.prog (w.alloc (.cells #[.int .i64 x] 3)) = .ok (.slice a' n' c') w2) ∧
    w2.cell? ⟨b4, 3, none⟩ = some ev ∧ w2.frozen? ⟨b4, 3, none⟩ = false ∧ DS w0 r0 b4 (w2.setCell ⟨b4, 3, none⟩ (.slice a' n' c')) F T u (.slice a' n' c') (es ++ [x]) := by
  obtain ⟨l1, l2⟩ := S.lt; have hr := heap_lt S.res; have hb := heap_lt S.box; obtain ⟨a', n', c', w2, hrun, g1, g2, g3⟩ := run_app1 (ts := 25) kitN Tryz.underlying25 infoN rfl (by omega) x (cs := #[.int .i64 x]) rfl S.row (by omega) (by omega)
  have hbox := (g2.block _ hb S.own.1).trans S.box; have hres := (g2.block _ hr S.own.2).trans S.res; have ht2 : Turned (fun b => b = b4) w2 (w2.setCell ⟨b4, 3, none⟩ (.slice a' n' c')) := turned_setCell w2 ⟨b4, 3, none⟩ _ rfl
  have hap : (Value.slice a' n' c').ownBlock ≠ some b4 := fun e => by have := (g1.lt _ e).1; omega
  have hb2 : Below w0.heap.size w0 w2 := S.bel.trans (g2.below S.bel.size (fun k e => by have := (S.row.lt k e).1; omega))
  refine ⟨a', n', c', w2, hrun, (oV_cells hbox).2.2.2, frozen_of_row _ _ 3 _ _ hbox, S.lt, (ht2.block _ (by have := g2.size; omega) (by omega)).trans hres, (heap_setCell_same w2 b4 3 _ _ _ hbox).trans rfl, rrow_kept g1 (fun b e => ht2.block b (g1.lt b e).2 (fun q => hap (by rw [e, q]))), hb2.setCell (by show w0.heap.size ≤ b4; omega) _⟩
end
theorem DS.fin {w0 w : World} {r0 b4 : Nat} {F T : Int} {u : Nat} {ev : Value} {es : List Int} (S : DS w0 r0 b4 w F T u ev es) (a b c d : Value) : (loadVar 35 ⟨r0, 0, none⟩).run Tryz.prog (set4 w r0 a b c d) = .ok (.agg #[a, b, c, d]) (set4 w r0 a b c d) ∧ NRow w0.heap.size (set4 w r0 a b c d) ev es ∧ Below w0.heap.size w0 (set4 w r0 a b c d) := by
  obtain ⟨l1, l2⟩ := S.lt; refine ⟨loadW _ _ _ _ _ _ (set4_at S.res _ _ _ _), rrow_low (rrow_kept S.row (fun b e => ?_)) (by omega), S.bel.trans ((set4_turned (S := fun b => b = r0) w rfl _ _ _ _).below S.bel.size (fun k e => by omega))⟩
  have := (S.row.lt b e).1; exact set4_other (by omega) _ _ _ _
theorem oV_two0 (w : World) : ((w.alloc (oV 0 0 0 (.slice none 0 0))).alloc (oV 0 0 0 (.slice none 0 0))).heap[w.heap.size]? = some (oV 0 0 0 (.slice none 0 0)) ∧ ((w.alloc (oV 0 0 0 (.slice none 0 0))).alloc (oV 0 0 0 (.slice none 0 0))).heap[w.heap.size + 1]? = some (oV 0 0 0 (.slice none 0 0)) ∧ Below w.heap.size w ((w.alloc (oV 0 0 0 (.slice none 0 0))).alloc (oV 0 0 0 (.slice none 0 0))) := by
  have s1 : (w.alloc (oV 0 0 0 (.slice none 0 0))).heap.size = w.heap.size + 1 := by simp
  have b1 := below_new w (oV 0 0 0 (.slice none 0 0)); have b2 := below_new (w.alloc (oV 0 0 0 (.slice none 0 0))) (oV 0 0 0 (.slice none 0 0)); have h := heap_alloc_new (w.alloc (oV 0 0 0 (.slice none 0 0))) (oV 0 0 0 (.slice none 0 0)); rw [s1] at h; exact ⟨(b2.block _ (by omega)).trans (heap_alloc_new _ _), h, b1.trans (b2.mono (by omega))⟩
theorem ds_start (w : World) : DS w w.heap.size (w.heap.size + 1) ((w.alloc (oV 0 0 0 (.slice none 0 0))).alloc (oV 0 0 0 (.slice none 0 0))) 0 0 0 (.slice none 0 0) [] := by
  obtain ⟨t1, t2, tb⟩ := oV_two0 w; exact ⟨⟨rfl, rfl⟩, t1, t2, ⟨rfl, .inl ⟨rfl, rfl⟩⟩, tb⟩
def BitR (bs : List Nat) (at_ k n : Nat) : Prop := k ≤ 4 ∧ n < 256 ^ (4 - k) ∧ ∀ u t, bs.drop at_ = bb u ++ t → u < 4294967296 → n = u / 256 ^ k
theorem bitR_start (bs : List Nat) (at_ : Nat) : BitR bs at_ 4 0 := ⟨by omega, by simp, fun u t _ h => by rw [Nat.div_eq_of_lt]; simpa using h⟩
theorem drop_at {bs : List Nat} {i j : Nat} : (bs.drop i)[j]? = bs[i + j]? := List.getElem?_drop
theorem bb_at (u : Nat) {k : Nat} (h : k < 4) (t : List Nat) : (bb u ++ t)[k]? = some (u / 256 ^ k % 256) := by
  have hk : k = 0 ∨ k = 1 ∨ k = 2 ∨ k = 3 := by omega
  rcases hk with rfl | rfl | rfl | rfl <;> simp [bb]
theorem bitR_step {bs : List Nat} {at_ k n x : Nat} (h : BitR bs at_ (k + 1) n) (hx : x < 256) (hb : ∀ y, bs[at_ + k]? = some y → x = y) : BitR bs at_ k (256 * n + x) := by
  obtain ⟨h1, h2, h3⟩ := h; refine ⟨by omega, ?_, fun u t hd hu => ?_⟩
  · have e : 4 - k = (4 - (k + 1)) + 1 := by omega
    rw [e, Nat.pow_succ]; omega
  · have e1 := h3 u t hd hu; have e2 := bb_at u (show k < 4 by omega) t
    rw [← hd, drop_at] at e2; rw [hb _ e2, e1, Nat.pow_succ, ← Nat.div_div_eq_div_mul]; omega
theorem bitR_none {bs : List Nat} {at_ k n : Nat} (h : BitR bs at_ (k + 1) n) (hb : bs.length ≤ at_ + k) : BitR bs at_ k (256 * n) := by
  have := bitR_step (x := 0) h (by omega) (fun y hy => by rw [List.getElem?_eq_none hb] at hy; cases hy)
  simpa using this
theorem bitR_end {bs : List Nat} {at_ n : Nat} (h : BitR bs at_ 0 n) : n < 4294967296 ∧ ∀ u t, bs.drop at_ = bb u ++ t → u < 4294967296 → n = u ∧ bs.drop (at_ + 4) = t := by
  refine ⟨by simpa using h.2.1, fun u t hd hu => ⟨by simpa using h.2.2 u t hd hu, ?_⟩⟩
  rw [← List.drop_drop, hd]; rfl
def K1 (bs : List Nat) (F at_ : Nat) : Prop := ∀ x, Good x → encWt x = bs → (F : Int) = x.1 ∧ bs.drop at_ = nb x.2.1.toNat ++ (bb x.2.2.1 ++ (nb x.2.2.2.length ++ encEs x.2.2.2))
def K2 (bs : List Nat) (F T at_ : Nat) : Prop := ∀ x, Good x → encWt x = bs → ((F : Int) = x.1 ∧ (T : Int) = x.2.1) ∧ bs.drop at_ = bb x.2.2.1 ++ (nb x.2.2.2.length ++ encEs x.2.2.2)
def K3 (bs : List Nat) (F T u at_ : Nat) : Prop := ∀ x, Good x → encWt x = bs → ((F : Int) = x.1 ∧ (T : Int) = x.2.1 ∧ u = x.2.2.1) ∧ bs.drop at_ = nb x.2.2.2.length ++ encEs x.2.2.2
def K4 (bs : List Nat) (F T u n at_ i : Nat) (es : List Int) : Prop := ∀ x, Good x → encWt x = bs → ((F : Int) = x.1 ∧ (T : Int) = x.2.1 ∧ u = x.2.2.1 ∧ n = x.2.2.2.length) ∧ es = x.2.2.2.take i ∧ bs.drop at_ = encEs (x.2.2.2.drop i)
theorem k1_of {bs : List Nat} {n at2 : Nat} (h : NumR bs 1 n at2) : K1 bs n at2 := fun x hx e => by
  obtain ⟨g1, g2, g3, g4, g5⟩ := hx; obtain ⟨-, -, h3⟩ := h; have h4 := h3 x.1.toNat _ (by rw [← e]; rfl) (by omega)
  exact ⟨by have := h4.1; omega, h4.2.1⟩
theorem k2_of {bs : List Nat} {F at_ n at2 : Nat} (k : K1 bs F at_) (h : NumR bs at_ n at2) : K2 bs F n at2 := fun x hx e => by
  obtain ⟨k1, k2⟩ := k x hx e; obtain ⟨g1, g2, g3, g4, g5⟩ := hx; have h4 := h.2.2 _ _ k2 (by omega)
  exact ⟨⟨k1, by have := h4.1; omega⟩, h4.2.1⟩
theorem k3_of {bs : List Nat} {F T at_ n : Nat} (k : K2 bs F T at_) (h : BitR bs at_ 0 n) : K3 bs F T n (at_ + 4) := fun x hx e => by
  obtain ⟨k1, k2⟩ := k x hx e; obtain ⟨q1, q2⟩ := (bitR_end h).2 _ _ k2 hx.2.2.2.1; exact ⟨⟨k1.1, k1.2, q1⟩, q2⟩
theorem k4_of {bs : List Nat} {F T u at_ n at2 : Nat} (k : K3 bs F T u at_) (h : NumR bs at_ n at2) : K4 bs F T u n at2 0 [] := fun x hx e => by
  obtain ⟨⟨k1, k2, k3⟩, k4⟩ := k x hx e; have h4 := h.2.2 _ _ k4 (by have := hx.1; omega)
  exact ⟨⟨k1, k2, k3, h4.1⟩, by simp, by rw [List.drop_zero]; exact h4.2.1⟩
theorem k4_step {bs : List Nat} {F T u n at_ i m at2 : Nat} {es : List Int} (k : K4 bs F T u n at_ i es) (h : NumR bs at_ m at2) (hi : i < n) : K4 bs F T u n at2 (i + 1) (es ++ [(m : Int)]) := fun x hx e => by
  obtain ⟨⟨k1, k2, k3, k4⟩, k5, k6⟩ := k x hx e; obtain ⟨y, hy⟩ : ∃ y, x.2.2.2[i]? = some y := ⟨_, List.getElem?_eq_getElem (by omega)⟩
  have hd : x.2.2.2.drop i = y :: x.2.2.2.drop (i + 1) := by
    obtain ⟨h1, h2⟩ := List.getElem?_eq_some_iff.1 hy; rw [List.drop_eq_getElem_cons h1, h2]
  have hg := hx.2.2.2.2 y (List.mem_of_getElem? hy); rw [hd, encEs_cons] at k6; have h4 := h.2.2 _ _ k6 (by omega)
  refine ⟨⟨k1, k2, k3, k4⟩, ?_, h4.2.1⟩; rw [k5, List.take_add_one, hy]; have : (m : Int) = y := by have := h4.1; omega
  rw [this]; rfl
theorem k4_end {bs : List Nat} {F T u n at_ i : Nat} {es : List Int} (k : K4 bs F T u n at_ i es) (h : n ≤ i ∨ 1024 ≤ i ∨ bs.length ≤ at_) : ∀ x, Good x → encWt x = bs → x = (((F : Nat) : Int), ((T : Nat) : Int), u, es) := fun x hx e => by
  obtain ⟨⟨k1, k2, k3, k4⟩, k5, k6⟩ := k x hx e; have he : es = x.2.2.2 := by
    rcases h with h | h | h
    · rw [k5, List.take_of_length_le (by omega)]
    · rw [k5, List.take_of_length_le (by have := hx.1; omega)]
    · rw [List.drop_eq_nil_of_le h] at k6; have := encEs_nil k6.symm; have e2 := List.take_append_drop i x.2.2.2; rw [this, List.append_nil] at e2; rw [k5, e2]
  obtain ⟨a, b, c, d⟩ := x; simp only at k1 k2 k3 he; rw [k1, k2, k3, he]
theorem ref_end {bs : List Nat} {y : WtV} (hb : ∀ x ∈ bs, x < 256) (hu : y.2.2.1 < 4294967296) (h : ∀ x, Good x → encWt x = bs → x = y) : (errC y = 0 ∧ encWt y = bs → decV bs = (y, 0)) ∧ (¬ (errC y = 0 ∧ encWt y = bs) → decV bs = ((0, 0, 0, []), 160)) := by
  unfold decV; constructor
  · rintro ⟨h1, h2⟩
    rw [← h2, dec_enc (good_of h1 hu)]
  · intro hn
    cases hd : dec bs with
    | none => rfl
    | some x =>
      obtain ⟨g1, g2⟩ := dec_some hb hd; have e := h x g1 g2; subst e; exact absurd ⟨errC_good g1, g2⟩ hn
end W16

end Go.Proofs.YtagibmgbjhemkaaGreat
