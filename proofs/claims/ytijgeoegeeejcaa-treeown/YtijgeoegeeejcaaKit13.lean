/- Edges, distances and ways in memory. -/
import Derived.Test.YtijgeoegeeejcaaRec13
import Derived.Test.YtijgeoegeeejcaaWCost
import Derived.Test.YtijgeoegeeejcaaLiveF
namespace Go.Proofs.Ytijgeoegeeejcaa
open Go.RowKit Go.Maps
abbrev EdV := Int × Int × Int × Int
def encE (x : EdV) : List Value := [.int .i64 x.1, .int .i64 x.2.1, .int .i64 x.2.2.1, .int .u32 x.2.2.2]
theorem kitE : Kit EdV 4 encE := ⟨by omega, fun _ => rfl, fun x v hv => by simp [encE] at hv; rcases hv with rfl | rfl | rfl | rfl <;> rfl⟩
abbrev ERow (B : Nat) (w : World) (v : Value) (es : List EdV) : Prop := RRow 42 4 encE B w v es
/-- A vertex, whether no walk leads there, its distance's bits, its last edge. -/
abbrev DiV := Int × Bool × Nat × Int
def encD (x : DiV) : List Value := [.int .i64 x.1, .bool x.2.1, .int .u32 (x.2.2.1 : Nat), .int .i64 x.2.2.2]
theorem kitD : Kit DiV 4 encD := ⟨by omega, fun _ => rfl, fun x v hv => by simp [encD] at hv; rcases hv with rfl | rfl | rfl | rfl <;> rfl⟩
abbrev DRow (B : Nat) (w : World) (v : Value) (ds : List DiV) : Prop := RRow 48 4 encD B w v ds
/-- An edge's number, the place to which it leads, its weight. -/
abbrev WyV := Int × Nat × Nat
def encW (x : WyV) : List Value := [.int .i64 x.1, .int .i64 (x.2.1 : Nat), .float .f32 x.2.2]
theorem kitW : Kit WyV 3 encW := ⟨by omega, fun _ => rfl, fun x v hv => by simp [encW] at hv; rcases hv with rfl | rfl | rfl <;> rfl⟩
abbrev WRow (B : Nat) (w : World) (v : Value) (ws : List WyV) : Prop := RRow 97 3 encW B w v ws
/-- A slice, as it stands in a list of lists. -/
abbrev SlV := Option Addr × Nat × Nat
def slv (x : SlV) : Value := .slice x.1 x.2.1 x.2.2
def encS (x : SlV) : List Value := [slv x]
theorem kitS : Kit SlV 1 encS := ⟨by omega, fun _ => rfl, fun x v hv => by simp [encS] at hv; rcases hv with rfl; rfl⟩
abbrev HdRow (B : Nat) (w : World) (v : Value) (xs : List SlV) : Prop := RRow 95 1 encS B w v xs
theorem infoED : (Try.prog.info? 42).map (fun i => (i.zero, i.size, i.bytes)) = some (some (.agg #[.int .i64 0, .int .i64 0, .int .i64 0, .int .u32 0]), 4, 32) := by kernel_rfl
theorem infoD : (Try.prog.info? 48).map (fun i => (i.zero, i.size, i.bytes)) = some (some (.agg #[.int .i64 0, .bool false, .int .u32 0, .int .i64 0]), 4, 24) := by kernel_rfl
theorem infoW : (Try.prog.info? 97).map (fun i => (i.zero, i.size, i.bytes)) = some (some (.agg #[.int .i64 0, .int .i64 0, .float .f32 0]), 3, 24) := by kernel_rfl
theorem infoWS : (Try.prog.info? 95).map (fun i => (i.zero, i.size, i.bytes)) = some (some (.slice none 0 0), 1, 24) := by kernel_rfl
section
variable {B : Nat} {w : World} {g n c i : Nat}
theorem erow_at {es : List EdV} {x : EdV} (h : ERow B w (.slice (some ⟨g, 0, none⟩) n c) es) (hi : es[i]? = some x) : w.cell? ⟨g, i * 4, none⟩ = some (.int .i64 x.1) ∧ w.cell? ⟨g, i * 4 + 1, none⟩ = some (.int .i64 x.2.1) ∧ w.cell? ⟨g, i * 4 + 2, none⟩ = some (.int .i64 x.2.2.1) ∧ w.cell? ⟨g, i * 4 + 3, none⟩ = some (.int .u32 x.2.2.2) :=
  ⟨rrow_at kitE h hi (j := 0) rfl, rrow_at kitE h hi (j := 1) rfl, rrow_at kitE h hi (j := 2) rfl, rrow_at kitE h hi (j := 3) rfl⟩
theorem drow_at {ds : List DiV} {x : DiV} (h : DRow B w (.slice (some ⟨g, 0, none⟩) n c) ds) (hi : ds[i]? = some x) : w.cell? ⟨g, i * 4, none⟩ = some (.int .i64 x.1) ∧ w.cell? ⟨g, i * 4 + 1, none⟩ = some (.bool x.2.1) ∧ w.cell? ⟨g, i * 4 + 2, none⟩ = some (.int .u32 (x.2.2.1 : Nat)) ∧ w.cell? ⟨g, i * 4 + 3, none⟩ = some (.int .i64 x.2.2.2) :=
  ⟨rrow_at kitD h hi (j := 0) rfl, rrow_at kitD h hi (j := 1) rfl, rrow_at kitD h hi (j := 2) rfl, rrow_at kitD h hi (j := 3) rfl⟩
theorem wrow_at {ws : List WyV} {x : WyV} (h : WRow B w (.slice (some ⟨g, 0, none⟩) n c) ws) (hi : ws[i]? = some x) : w.cell? ⟨g, i * 3, none⟩ = some (.int .i64 x.1) ∧ w.cell? ⟨g, i * 3 + 1, none⟩ = some (.int .i64 (x.2.1 : Nat)) ∧ w.cell? ⟨g, i * 3 + 2, none⟩ = some (.float .f32 x.2.2) :=
  ⟨rrow_at kitW h hi (j := 0) rfl, rrow_at kitW h hi (j := 1) rfl, rrow_at kitW h hi (j := 2) rfl⟩
theorem hdrow_at {xs : List SlV} {x : SlV} (h : HdRow B w (.slice (some ⟨g, 0, none⟩) n c) xs) (hi : xs[i]? = some x) : w.cell? ⟨g, i, none⟩ = some (slv x) := by
  have := rrow_at kitS h hi (j := 0) rfl
  rwa [Nat.mul_one, Nat.add_zero] at this
end
/-! Where a vertex stands. -/
def cmpI (x y : Int) : Int := if x < y then -1 else if y < x then 1 else 0
set_option maxHeartbeats 400000 in
theorem compareS (x y : Int) (w : World) : Calls Try.prog 71 #[.int .i64 x, .int .i64 y] w fun e w' => e = .returned (.int .i64 (cmpI x y)) ∧ w' = w := by
  have CN : Hid (∀ (z : Int) (W : World), Calls Try.prog 93 #[.int .i64 z] W fun e w' => e = .returned (.bool false) ∧ w' = W) := fun z W => by
    go_enter Try.func93, Try.ntmps93
    go_wp2
    go_ret
    exact ⟨by simp, rfl⟩
  unfold cmpI
  by_cases h1 : x < y
  · rw [if_pos h1]
    go_enter Try.func71, Try.ntmps71
    go_wp2_with fail
    refine (unhide CN x _).mono ?_
    rintro e w1 ⟨rfl, rfl⟩
    go_wp2_with fail
    refine (unhide CN y _).mono ?_
    rintro e w2 ⟨rfl, rfl⟩
    go_wp2_with fail
    go_ret
    exact ⟨rfl, rfl⟩
  · rw [if_neg h1]
    by_cases h2 : y < x
    · rw [if_pos h2]
      go_enter Try.func71, Try.ntmps71
      go_wp2_with fail
      refine (unhide CN x _).mono ?_
      rintro e w1 ⟨rfl, rfl⟩
      go_wp2_with fail
      refine (unhide CN y _).mono ?_
      rintro e w2 ⟨rfl, rfl⟩
      go_wp2_with fail
      go_ret
      exact ⟨rfl, rfl⟩
    · rw [if_neg h2]
      go_enter Try.func71, Try.ntmps71
      go_wp2_with fail
      refine (unhide CN x _).mono ?_
      rintro e w1 ⟨rfl, rfl⟩
      go_wp2_with fail
      refine (unhide CN y _).mono ?_
      rintro e w2 ⟨rfl, rfl⟩
      go_wp2_with fail
      go_ret
      exact ⟨rfl, rfl⟩
def oD (x : DiV) : Obj := .cells #[.int .i64 x.1, .bool x.2.1, .int .u32 (x.2.2.1 : Nat), .int .i64 x.2.2.2] 48
set_option maxHeartbeats 400000 in
theorem place1S (x : DiV) (v : Int) (w : World) : Calls Try.prog 70 #[.agg #[.int .i64 x.1, .bool x.2.1, .int .u32 (x.2.2.1 : Nat), .int .i64 x.2.2.2], .int .i64 v] w fun e w' => e = .returned (.int .i64 (cmpI x.1 v)) ∧ Hid (Below w.heap.size w w') := by
  have HB := hide (below_new w (oD x))
  have c0 : (w.alloc (oD x)).cell? ⟨w.heap.size, 0, none⟩ = some (.int .i64 x.1) := (cell_of_row _ _ 0 _ _ (0, 0) (heap_alloc_new w (oD x))).trans rfl
  have CC := hide (compareS x.1 v)
  generalize cmpI x.1 v = r at *
  unfold oD at *
  go_enter Try.func70, Try.ntmps70
  go_wp2_with fail
  refine (unhide CC _).mono ?_
  rintro e w1 ⟨rfl, rfl⟩
  go_wp2_with fail
  go_ret
  exact ⟨rfl, HB⟩
/-- How many stand ahead of v. -/
def rankV (ds : List DiV) (v : Int) : Nat := ds.countP (fun d => decide (d.1 < v))
def RiseD (ds : List DiV) : Prop := ds.Pairwise (fun a b => a.1 < b.1)
theorem rank_le (ds : List DiV) (v : Int) : rankV ds v ≤ ds.length := List.countP_le_length
theorem rank_lt : ∀ {ds : List DiV} {v : Int}, RiseD ds → ∀ {i : Nat} {d : DiV}, ds[i]? = some d → (i < rankV ds v ↔ d.1 < v)
  | [], v, _, i, d, h => by simp at h
  | x :: ds, v, hr, i, d, h => by
    obtain ⟨p1, p2⟩ := List.pairwise_cons.1 hr
    unfold rankV
    rw [List.countP_cons]
    by_cases hx : x.1 < v
    · rw [if_pos (by simpa using hx)]
      cases i with
      | zero => injection h with h; subst h; exact ⟨fun _ => hx, fun _ => by omega⟩
      | succ i =>
        have := rank_lt (v := v) p2 (i := i) (d := d) (by simpa using h)
        unfold rankV at this
        rw [← this]; omega
    · have h0 : ds.countP (fun d => decide (d.1 < v)) = 0 := List.countP_eq_zero.2 (fun y hy => by have := p1 y hy; simp; omega)
      rw [if_neg (by simpa using hx), h0]
      refine ⟨fun q => by omega, fun q => ?_⟩
      cases i with
      | zero => injection h with h; subst h; exact absurd q hx
      | succ i => have := p1 d (List.mem_of_getElem? (by simpa using h)); omega
theorem rank_found {ds : List DiV} {v : Int} (hr : RiseD ds) : v ∈ ds.map (·.1) ↔ ∃ d, ds[rankV ds v]? = some d ∧ d.1 = v := by
  constructor
  · intro h
    obtain ⟨d, hd, rfl⟩ := List.mem_map.1 h
    obtain ⟨i, hi⟩ := List.mem_iff_getElem?.1 hd
    have h1 := (not_congr (rank_lt (v := d.1) hr hi)).2 (by omega)
    have hl := (List.getElem?_eq_some_iff.1 hi).1
    obtain ⟨e, he⟩ : ∃ e, ds[rankV ds d.1]? = some e := ⟨_, List.getElem?_eq_getElem (by omega)⟩
    have h2 := (not_congr (rank_lt (v := d.1) hr he)).1 (by omega)
    rcases Nat.lt_or_ge (rankV ds d.1) i with q | q
    · have h3 := List.pairwise_iff_getElem.1 hr (rankV ds d.1) i (by omega) hl q
      rw [(List.getElem?_eq_some_iff.1 he).2, (List.getElem?_eq_some_iff.1 hi).2] at h3
      omega
    · have : rankV ds d.1 = i := by omega
      rw [this, hi] at he
      injection he with he
      exact ⟨d, by rw [this]; exact hi, rfl⟩
  · rintro ⟨d, hd, rfl⟩
    exact List.mem_map.2 ⟨d, List.mem_of_getElem? hd, rfl⟩
theorem midW {l h k : Nat} (hb : l + h ≤ 4000000) (hk : k = (l + h) / 2) : wrap64 (IntKind.u64.wrap (wrap64 ((l : Int) + (h : Int))) / 2) = (k : Int) := by
  have e1 : wrap64 ((l : Int) + (h : Int)) = (l : Int) + (h : Int) := by unfold wrap64; omega
  have e2 : IntKind.u64.wrap ((l : Int) + (h : Int)) = (l : Int) + (h : Int) := by unfold IntKind.wrap; simp [IntKind.signed, IntKind.bits]; omega
  rw [e1, e2]
  unfold wrap64
  omega
set_option maxHeartbeats 2000000 in
set_option maxRecDepth 100000 in
theorem bsfS {w : World} {v : Value} {ds : List DiV} (x : Int) (h : DRow 0 w v ds) (hr : RiseD ds) (hl : ds.length ≤ 1000000) :
    Calls Try.prog 69 #[v, .int .i64 x, .func (.func 70) #[] #[]] w fun e w' => e = .returned (.tuple #[.int .i64 (rankV ds x : Nat), .bool (decide (x ∈ ds.map (·.1)))]) ∧ Hid (Below w.heap.size w w') := by
  obtain ⟨a, c, rfl⟩ := rrow_shape h
  obtain ⟨n, hn⟩ : ∃ n, n = ds.length := ⟨_, rfl⟩
  obtain ⟨rk, hrk⟩ : ∃ rk, rk = rankV ds x := ⟨_, rfl⟩
  rw [← hn, ← hrk]
  obtain ⟨f, hf⟩ : ∃ f, f = decide (x ∈ ds.map (·.1)) := ⟨_, rfl⟩
  rw [← hf]
  have HN : Hid (n = ds.length ∧ rk = rankV ds x ∧ n ≤ 1000000 ∧ rk ≤ n) := ⟨hn, hrk, by omega, by rw [hn, hrk]; exact rank_le ds x⟩
  have H := hide h
  have HR := hide hr
  have HF := hide hf
  rw [← hn] at H
  clear h hr hn hrk hf hl
  go_enter Try.func69, Try.ntmps69
  go_wp2_with fail
  go_loopw [9, 10] (fun s9 s10 wr => ∃ (l h : Nat), s9 = .int .i64 l ∧ s10 = .int .i64 h ∧ Hid (l ≤ rk ∧ rk ≤ h ∧ h ≤ n ∧ Below w.heap.size w wr)) (fun a b _ => (intOf b - intOf a).toNat)
  case atStart => exact ⟨0, n, rfl, rfl, Nat.zero_le _, (unhide HN).2.2.2, Nat.le_refl _, Below.refl _ _⟩
  case round =>
    obtain ⟨l, h, rfl, rfl, HI⟩ := hrel
    obtain ⟨i1, i2, i3, hb⟩ := unhide HI
    obtain ⟨n1, n2, n3, n4⟩ := unhide HN
    by_cases hlt : l < h
    · obtain ⟨k, hk⟩ : ∃ k, k = (l + h) / 2 := ⟨_, rfl⟩
      have hz : wrap64 (IntKind.u64.wrap (wrap64 ((l : Int) + (h : Int))) / 2) = (k : Int) := midW (by omega) hk
      have HZ := hide hz
      obtain ⟨d, hd⟩ : ∃ d, ds[k]? = some d := ⟨_, List.getElem?_eq_getElem (by omega)⟩
      have hrow := rrow_below (unhide H) hb
      obtain ⟨g, rfl⟩ := rrow_some hrow (by omega)
      obtain ⟨d0, d1, d2, d3⟩ := drow_at hrow hd
      have C1 := hide (place1S d x)
      have hlk := rank_lt (v := x) (unhide HR) hd
      rw [← n2] at hlk
      have z1 : (l : Int) < (h : Int) := by omega
      have z2 : (k : Int) < (n : Int) := by omega
      have HB := hide hb
      by_cases hdx : d.1 < x
      · have e1 : cmpI d.1 x = -1 := if_pos hdx
        rw [e1] at C1
        obtain ⟨k1, hk1⟩ : ∃ k1, k1 = k + 1 := ⟨_, rfl⟩
        have zk : Hid (wrap64 ((k : Int) + 1) = (k1 : Int)) := by show wrap64 ((k : Int) + 1) = (k1 : Int); unfold wrap64; clear hz; omega
        have HJ : Hid (k1 = k + 1 ∧ k1 ≤ rk ∧ rk ≤ h ∧ h ≤ n ∧ h - k1 < h - l) := ⟨hk1, by have := hlk.2 hdx; omega, i2, i3, by omega⟩
        clear hrow hd hlk hlt hk hk1 hb HI i1 i2 i3 n1 n2 n3 n4 hdx e1
        go_wp2_with fail
        refine (unhide C1 _).mono ?_
        rintro e w1 ⟨rfl, hb1⟩
        have HB1 : Hid (Below w.heap.size w w1) := (unhide HB).trans ((unhide hb1).mono (unhide HB).size)
        clear C1 hb1 HB d0 d1 d2 d3 hz
        go_wp2_with fail
        (try rw [unhide HZ])
        (try rw [unhide zk])
        exact ⟨⟨k1, h, rfl, rfl, (unhide HJ).2.1, (unhide HJ).2.2.1, (unhide HJ).2.2.2.1, unhide HB1⟩, by have := unhide HJ; simp [intOf]; omega⟩
      · have e1 : ¬ cmpI d.1 x < 0 := by unfold cmpI; rw [if_neg hdx]; split <;> omega
        generalize cmpI d.1 x = r at C1 e1
        have HJ : Hid (l ≤ rk ∧ rk ≤ k ∧ k ≤ n ∧ k - l < h - l) := ⟨i1, by have := (not_congr hlk).2 hdx; omega, by omega, by omega⟩
        clear hrow hd hlk hlt hk hb HI i1 i2 i3 n1 n2 n3 n4 hdx
        go_wp2_with fail
        refine (unhide C1 _).mono ?_
        rintro e w1 ⟨rfl, hb1⟩
        have HB1 : Hid (Below w.heap.size w w1) := (unhide HB).trans ((unhide hb1).mono (unhide HB).size)
        clear C1 hb1 HB d0 d1 d2 d3 hz
        go_wp2_with fail
        (try rw [unhide HZ])
        exact ⟨⟨l, k, rfl, rfl, (unhide HJ).1, (unhide HJ).2.1, (unhide HJ).2.2.1, unhide HB1⟩, by have := unhide HJ; simp [intOf]; omega⟩
    · obtain rfl : h = l := by omega
      obtain rfl : h = rk := by omega
      have z1 : ¬ (h : Int) < (h : Int) := by omega
      have hfd := rank_found (v := x) (unhide HR)
      rw [← n2] at hfd
      by_cases hn : h < n
      · obtain ⟨d, hd⟩ : ∃ d, ds[h]? = some d := ⟨_, List.getElem?_eq_getElem (by omega)⟩
        have hrow := rrow_below (unhide H) hb
        obtain ⟨g, rfl⟩ := rrow_some hrow (by omega)
        obtain ⟨d0, d1, d2, d3⟩ := drow_at hrow hd
        have C1 := hide (place1S d x)
        have z2 : (h : Int) < (n : Int) := by omega
        have hlk := (not_congr (rank_lt (v := x) (unhide HR) hd)).1 (by omega)
        have HB := hide hb
        have HG : Hid (f = (cmpI d.1 x == 0)) := by
          show f = _
          rw [unhide HF]
          by_cases q : d.1 = x
          · rw [decide_eq_true (hfd.2 ⟨d, hd, q⟩)]
            unfold cmpI; rw [if_neg (by omega), if_neg (by omega)]; rfl
          · rw [decide_eq_false (fun z => by
              obtain ⟨d', h1, h2⟩ := hfd.1 z
              rw [hd] at h1; injection h1 with h1; exact q (by rw [h1]; exact h2))]
            unfold cmpI; rw [if_neg hlk, if_pos (by omega)]; rfl
        generalize cmpI d.1 x = r at *
        clear hrow hd hlt hb HI i1 i2 i3 n1 n2 n3 n4 hlk hfd hn HF
        go_wp2_with fail
        refine (unhide C1 _).mono ?_
        rintro e w1 ⟨rfl, hb1⟩
        have HB1 : Hid (Below w.heap.size w w1) := (unhide HB).trans ((unhide hb1).mono (unhide HB).size)
        clear C1 hb1 HB d0 d1 d2 d3
        go_wp2_with fail
        go_ret2
        exact ⟨by rw [unhide HG]; first | rfl | simp, HB1⟩
      · have z2 : ¬ (h : Int) < (n : Int) := by omega
        have e2 : f = false := by
          rw [unhide HF]
          exact decide_eq_false (fun z => by
            obtain ⟨d', h1, -⟩ := hfd.1 z
            have := (List.getElem?_eq_some_iff.1 h1).1; omega)
        subst e2
        have HB := hide hb
        clear hlt hb HI i1 i2 i3 n1 n2 n3 n4 hfd hn HF
        go_wp2_with fail
        go_ret2
        exact ⟨rfl, HB⟩
end Go.Proofs.Ytijgeoegeeejcaa
