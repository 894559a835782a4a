/- The reference's Heads. -/
import Derived.Test.YtfhidghjmookhaaRefTell
namespace Go.Proofs.Ytfhidghjmookhaa
open Go.RowKit Go.Maps

theorem wpAnyH_strong {P : Program} {md : Region.Mode} {ops : Array Oper} {Q : Exit → Act → World → Prop} {S S' : World → Prop} (hS : ∀ w, S' w → S w) : ∀ (fuel : Nat) (listed : Array Bool) (a : Act) (w : World), wpAnyH P md ops Q S' fuel listed a w → wpAnyH P md ops Q S fuel listed a w
  | 0, _, _, _, h => h
  | fuel + 1, _, _, _, h => ⟨h.1, fun i hi => wpOp_mono (fun a' w' h' => ⟨hS w' h'.1, wpAnyH_strong hS fuel _ a' w' h'.2⟩) (h.2 i hi)⟩

theorem takeD {P : Program} {md : Region.Mode} {ops : Array Oper} {Q : Exit → Act → World → Prop} {S : World → Prop} {i : Nat} {oi : Oper} {v : Value} {fuel : Nat} {listed : Array Bool} {a : Act} {w : World} (d : Option Tmp) (hi : ops[i]? = some oi) (hd : oi.dst = d)
    (hs : Region.noSelect ops = true) (hf : Region.free md ops listed i = true) (hr : (Region.ready md ops listed).contains i = true)
    (hQ : ∀ c a w, Q (.panic c) (a.put d v) w → Q (.panic c) a w) (hy : YieldsIf P ops S oi v a) (hS : S w)
    (h : wpAnyH P md ops Q S fuel (listed.setIfInBounds i true) (a.put d v) w) : wpAnyH P md ops Q S (fuel + 1) listed a w := by
  subst hd
  exact wpAnyH_take hi hs hf hr hQ hy hS h

/-- The first thing with x's mark. -/
def firstOf (its : List (Int × Int)) (m : Int) : Int := (memb its m).headD 0
/-- Of the first n things those that are the first ones of their marks. -/
def headsR (its : List (Int × Int)) (n : Nat) : List Int := ((its.take n).filter (fun x => firstOf its x.2 == x.1)).map (·.1)

theorem headsR_in {its : List (Int × Int)} {n : Nat} (h : n < its.length) (hm : (firstOf its (hi its n) == lo its n) = true) : headsR its (n + 1) = headsR its n ++ [lo its n] := by
  unfold headsR
  rw [take_next h, List.filter_append, List.map_append]
  have : firstOf its (hi its n) = lo its n := by simpa using hm
  simp [this]
theorem headsR_out {its : List (Int × Int)} {n : Nat} (h : n < its.length) (hm : (firstOf its (hi its n) == lo its n) = false) : headsR its (n + 1) = headsR its n := by
  unfold headsR
  rw [take_next h, List.filter_append, List.map_append]
  have : firstOf its (hi its n) ≠ lo its n := by simpa using hm
  simp [this]
theorem headsR_le (its : List (Int × Int)) (n : Nat) : (headsR its n).length ≤ its.length := by
  unfold headsR
  rw [List.length_map]
  exact Nat.le_trans (List.length_filter_le _ _) (by rw [List.length_take]; omega)
theorem memb_pos {its : List (Int × Int)} {n : Nat} (h : n < its.length) : 0 < (memb its (hi its n)).length := by
  have hm : its[n] ∈ its := List.getElem_mem h
  unfold memb
  rw [List.length_map]
  refine List.length_pos_iff.2 (fun e => ?_)
  have : its[n] ∈ its.filter (fun x => x.2 == hi its n) := List.mem_filter.2 ⟨hm, by simp [hi, List.getD, h]⟩
  rw [e] at this
  cases this

theorem refHeadsNil {v : Value} (nx : Int) (w : World) (a : Option Addr) (c : Nat) (hv : v = .slice a 0 c) :
    Calls Try.prog 15 #[.agg #[v, .int .i64 nx]] w fun e w' => e = .returned (.slice none 0 0) ∧ Hid (Below w.heap.size w w') := by
  subst hv
  have hb : Below w.heap.size w (w.alloc (.cells #[.slice a 0 c, .int .i64 nx] 28)) := (Below.refl _ _).alloc (Nat.le_refl _) _
  have HB := hide hb
  obtain ⟨b0, b1, bf⟩ := box2 w (.slice a 0 c) (.int .i64 nx) 28
  clear hb
  go_enter Try.func15, Try.ntmps15
  go_wp2_with fail
  refine wp_loop_rounds 1 ?_
  rw [rounds_succ]
  go_wp2_with fail
  go_ret
  exact ⟨rfl, unhide HB⟩

set_option maxHeartbeats 2000000 in
set_option maxRecDepth 100000 in
theorem refHeadsYes {g cap : Nat} {its : List (Int × Int)} (nx : Int) (w : World) (h : w.ownsRow 0 35 2 (.slice (some ⟨g, 0, none⟩) its.length cap) its.length (enc .i64 its)) (hn : its.length ≤ 1000000) (hu : ∀ a b, a < its.length → b < its.length → lo its a = lo its b → a = b) :
    Calls Try.prog 15 #[.agg #[.slice (some ⟨g, 0, none⟩) its.length cap, .int .i64 nx]] w fun e w' => ∃ v', e = .returned v' ∧ Hid (w'.ownsRow w.heap.size 3 1 v' (headsR its its.length).length ((headsR its its.length).map (Value.int .i64)) ∧ Below w.heap.size w w') := by
  have hb : Below w.heap.size w (w.alloc (.cells #[.slice (some ⟨g, 0, none⟩) its.length cap, .int .i64 nx] 28)) := (Below.refl _ _).alloc (Nat.le_refl _) _
  have h2 := items_below h hb
  obtain ⟨b0, b1, bf⟩ := box2 w (.slice (some ⟨g, 0, none⟩) its.length cap) (.int .i64 nx) 28
  have hs : w.heap.size < (w.alloc (.cells #[.slice (some ⟨g, 0, none⟩) its.length cap, .int .i64 nx] 28)).heap.size := by simp
  have HCC := hide (fun j hj w3 (hb3 : Below (w.alloc (.cells #[.slice (some ⟨g, 0, none⟩) its.length cap, .int .i64 nx] 28)).heap.size (w.alloc (.cells #[.slice (some ⟨g, 0, none⟩) its.length cap, .int .i64 nx] 28)) w3) => (owns_cells (items_below h2 hb3) j hj).1)
  have CM : Hid (∀ n u, n < its.length → Below (w.alloc (.cells #[.slice (some ⟨g, 0, none⟩) its.length cap, .int .i64 nx] 28)).heap.size (w.alloc (.cells #[.slice (some ⟨g, 0, none⟩) its.length cap, .int .i64 nx] 28)) u →
      Calls Try.prog 13 #[.agg #[.slice (some ⟨g, 0, none⟩) its.length cap, .int .i64 nx], .int .i64 (lo its n)] u fun e w' => ∃ gm Lm cm, e = .returned (.slice (some ⟨gm, 0, none⟩) Lm cm) ∧ Hid (0 < Lm) ∧ w'.cell? ⟨gm, 0, none⟩ = some (.int .i64 (firstOf its (hi its n))) ∧ Hid (Below u.heap.size u w')) := fun n u hn1 hu1 => by
    refine (refMembersYes nx (lo its n) n u (items_below h2 hu1) hn hn1 rfl (fun m hm e => hu m n hm hn1 e)).mono fun e w' hh => ?_
    obtain ⟨v', he, hr⟩ := hh
    obtain ⟨r1, r2⟩ := unhide hr
    obtain ⟨gm, cm, f1, f2⟩ := (row_ints r1).2 0 (memb_pos hn1)
    refine ⟨gm, _, cm, by rw [he, f1], memb_pos hn1, ?_, r2⟩
    rw [f2]
    unfold firstOf
    cases memb its (hi its n) <;> rfl
  have HB := hide hb
  have HS := hide hs
  have HN := hide hn
  generalize hL : its.length = L at *
  have HL := hide hL
  clear h hn hb hL hs h2 hu
  go_enter Try.func15, Try.ntmps15
  go_wp2_with fail
  generalize (w.alloc (.cells #[.slice (some ⟨g, 0, none⟩) L cap, .int .i64 nx] 28)) = W at *
  go_loopw [3, 4] (fun s3 s4 wr => ∃ (n n3 : Nat) (a3 : Option Addr) (c3 : Nat), n ≤ L ∧ s4 = .int .i64 n ∧ s3 = .slice a3 n3 c3 ∧ Hid (n3 = (headsR its n).length ∧ Below W.heap.size W wr ∧ wr.ownsRow W.heap.size 3 1 (.slice a3 n3 c3) n3 ((headsR its n).map (Value.int .i64)))) (fun _ s4 _ => L - (intOf s4).toNat)
  case atStart => exact ⟨0, 0, none, 0, Nat.zero_le _, rfl, rfl, by simp [headsR], Below.refl _ _, by simpa [headsR] using World.ownsRow_nil _ _ _ _⟩
  case round =>
    obtain ⟨n, n3, a3, c3, hnL, rfl, rfl, HR⟩ := hrel
    rename World => wo
    obtain ⟨k1, k2, k3⟩ := unhide HR
    have d0 : wo.cell? ⟨w.heap.size, 0, none⟩ = some (.slice (some ⟨g, 0, none⟩) L cap) := (k2.cell (p := ⟨w.heap.size, 0, none⟩) (unhide HS)).trans b0
    have d1 : wo.cell? ⟨w.heap.size, 1, none⟩ = some (.int .i64 nx) := (k2.cell (p := ⟨w.heap.size, 1, none⟩) (unhide HS)).trans b1
    by_cases hlt : n < L
    · have hnz : (n : Int) < (L : Int) := by omega
      have hnb : IntKind.i64.wrap ((n : Int) + 1) = ((n + 1 : Nat) : Int) := by have := unhide HN; rw [IntKind.wrap_i64]; omega
      have q1 := unhide HCC n hlt wo k2
      have hnl : n < its.length := by rw [unhide HL]; exact hlt
      have HIN := hide (headsR_in hnl)
      have HOUT := hide (headsR_out hnl)
      have C1 : Hid (∀ z, Calls Try.prog 13 #[.agg #[.slice (some ⟨g, 0, none⟩) L cap, .int .i64 nx], .int .i64 (lo its n)] (wo.drewN z) fun e w' => ∃ gm Lm cm, e = .returned (.slice (some ⟨gm, 0, none⟩) Lm cm) ∧ 0 < Lm ∧ w'.cell? ⟨gm, 0, none⟩ = some (.int .i64 (firstOf its (hi its n))) ∧
          (w'.cell? ⟨w.heap.size, 0, none⟩ = some (.slice (some ⟨g, 0, none⟩) L cap) ∧ w'.cell? ⟨w.heap.size, 1, none⟩ = some (.int .i64 nx) ∧ w'.cell? ⟨g, n * 2, none⟩ = some (.int .i64 (lo its n))) ∧ Hid (Below W.heap.size W w' ∧ w'.ownsRow W.heap.size 3 1 (.slice a3 n3 c3) n3 ((headsR its n).map (Value.int .i64)))) := fun z => by
        refine (unhide CM n (wo.drewN z) hlt (below_drewN k2 z)).mono fun e w' hh => ?_
        obtain ⟨gm, Lm, cm, f1, f2, f3, f4⟩ := hh
        have hb4 := unhide f4
        have hbW : Below W.heap.size W w' := (below_drewN k2 z).trans (hb4.mono (below_drewN k2 z).size)
        exact ⟨gm, Lm, cm, f1, unhide f2, f3, ⟨(hbW.cell (p := ⟨w.heap.size, 0, none⟩) (unhide HS)).trans b0, (hbW.cell (p := ⟨w.heap.size, 1, none⟩) (unhide HS)).trans b1, unhide HCC n hlt w' hbW⟩, hbW, by
          have k3' : (wo.drewN z).ownsRow W.heap.size 3 1 (.slice a3 n3 c3) n3 ((headsR its n).map (Value.int .i64)) := k3
          exact Rw.At.kept (r := ⟨.slice a3 n3 c3, 3, 1, n3, (headsR its n).map (Value.int .i64)⟩) k3' (fun k hk => hb4.block k (k3'.lt k hk).2)⟩
      have HLE : Hid (n3 ≤ 1000000) := by have := headsR_le its n; have := unhide HN; have := unhide HL; show _ ≤ _; omega
      have HK1 := hide k1
      generalize firstOf its (hi its n) = fn at *
      generalize lo its n = kn at *
      clear HR k1 k2 k3 CM
      go_upto_region 5 with fail
      go_cut [28] from 5 to 37 (fun s28 wq => s28 = .bool (fn == kn) ∧ (wq.cell? ⟨w.heap.size, 0, none⟩ = some (.slice (some ⟨g, 0, none⟩) L cap) ∧ wq.cell? ⟨w.heap.size, 1, none⟩ = some (.int .i64 nx) ∧ wq.cell? ⟨g, n * 2, none⟩ = some (.int .i64 kn)) ∧ Hid (Below W.heap.size W wq ∧ wq.ownsRow W.heap.size 3 1 (.slice a3 n3 c3) n3 ((headsR its n).map (Value.int .i64))))
      case first =>
        refine wp_region_held_drew (S := fun w' => w'.cell? ⟨w.heap.size, 0, none⟩ = some (.slice (some ⟨g, 0, none⟩) L cap) ∧ w'.cell? ⟨w.heap.size, 1, none⟩ = some (.int .i64 nx) ∧ w'.cell? ⟨g, n * 2, none⟩ = some (.int .i64 kn)) (by kernel_rfl) ⟨d0, d1, q1⟩ (fun hHeld => ?_)
        refine takeD (i := 0) (v := ?v1) (some 12) rfl rfl (by kernel_rfl) (by kernel_rfl) (by kernel_rfl) (fun _ _ _ h => h) (Or.inl ⟨by rfl, ?hy1⟩) (by assumption) ?rest1
        case hy1 => (intro u hSu; (try dsimp only at hSu); go_simp; first | done | with_reducible rfl)
        (try simp only [Act.put, List.setIfInBounds_toArray, List.set_cons_zero, List.set_cons_succ])
        refine takeD (i := 1) (v := ?v2) (some 13) rfl rfl (by kernel_rfl) (by kernel_rfl) (by kernel_rfl) (fun _ _ _ h => h) (Or.inl ⟨by rfl, ?hy2⟩) (by assumption) ?rest2
        case hy2 => (intro u hSu; (try dsimp only at hSu); go_simp; first | done | with_reducible rfl)
        (try simp only [Act.put, List.setIfInBounds_toArray, List.set_cons_zero, List.set_cons_succ])
        refine takeD (i := 2) (v := ?v3) (some 14) rfl rfl (by kernel_rfl) (by kernel_rfl) (by kernel_rfl) (fun _ _ _ h => h) (Or.inl ⟨by rfl, ?hy3⟩) (by assumption) ?rest3
        case hy3 => (intro u hSu; (try dsimp only at hSu); go_simp; first | done | with_reducible rfl)
        (try simp only [Act.put, List.setIfInBounds_toArray, List.set_cons_zero, List.set_cons_succ])
        refine takeD (i := 3) (v := ?v4) (some 15) rfl rfl (by kernel_rfl) (by kernel_rfl) (by kernel_rfl) (fun _ _ _ h => h) (Or.inl ⟨by rfl, ?hy4⟩) (by assumption) ?rest4
        case hy4 => (intro u hSu; (try dsimp only at hSu); go_simp; first | done | with_reducible rfl)
        (try simp only [Act.put, List.setIfInBounds_toArray, List.set_cons_zero, List.set_cons_succ])
        refine takeD (i := 4) (v := ?v5) (some 16) rfl rfl (by kernel_rfl) (by kernel_rfl) (by kernel_rfl) (fun _ _ _ h => h) (Or.inl ⟨by rfl, ?hy5⟩) (by assumption) ?rest5
        case hy5 => (intro u hSu; (try dsimp only at hSu); go_simp; first | done | with_reducible rfl)
        (try simp only [Act.put, List.setIfInBounds_toArray, List.set_cons_zero, List.set_cons_succ])
        refine takeD (i := 5) (v := ?v6) (some 17) rfl rfl (by kernel_rfl) (by kernel_rfl) (by kernel_rfl) (fun _ _ _ h => h) (Or.inl ⟨by rfl, ?hy6⟩) (by assumption) ?rest6
        case hy6 => (intro u hSu; (try dsimp only at hSu); go_simp; first | done | with_reducible rfl)
        (try simp only [Act.put, List.setIfInBounds_toArray, List.set_cons_zero, List.set_cons_succ])
        refine takeD (i := 6) (v := ?v7) (some 18) rfl rfl (by kernel_rfl) (by kernel_rfl) (by kernel_rfl) (fun _ _ _ h => h) (Or.inl ⟨by rfl, ?hy7⟩) (by assumption) ?rest7
        case hy7 => (intro u hSu; (try dsimp only at hSu); go_simp; first | done | with_reducible rfl)
        (try simp only [Act.put, List.setIfInBounds_toArray, List.set_cons_zero, List.set_cons_succ])
        refine takeD (i := 10) (v := ?v8) (some 22) rfl rfl (by kernel_rfl) (by kernel_rfl) (by kernel_rfl) (fun _ _ _ h => h) (Or.inl ⟨by rfl, ?hy8⟩) (by assumption) ?rest8
        case hy8 => (intro u hSu; (try dsimp only at hSu); go_simp; first | done | with_reducible rfl)
        (try simp only [Act.put, List.setIfInBounds_toArray, List.set_cons_zero, List.set_cons_succ])
        refine takeD (i := 11) (v := ?v9) (some 23) rfl rfl (by kernel_rfl) (by kernel_rfl) (by kernel_rfl) (fun _ _ _ h => h) (Or.inl ⟨by rfl, ?hy9⟩) (by assumption) ?rest9
        case hy9 => (intro u hSu; (try dsimp only at hSu); go_simp; first | done | with_reducible rfl)
        (try simp only [Act.put, List.setIfInBounds_toArray, List.set_cons_zero, List.set_cons_succ])
        refine takeD (i := 12) (v := ?v10) (some 24) rfl rfl (by kernel_rfl) (by kernel_rfl) (by kernel_rfl) (fun _ _ _ h => h) (Or.inl ⟨by rfl, ?hy10⟩) (by assumption) ?rest10
        case hy10 => (intro u hSu; (try dsimp only at hSu); go_simp; first | done | with_reducible rfl)
        (try simp only [Act.put, List.setIfInBounds_toArray, List.set_cons_zero, List.set_cons_succ])
        refine takeD (i := 13) (v := ?v11) (some 25) rfl rfl (by kernel_rfl) (by kernel_rfl) (by kernel_rfl) (fun _ _ _ h => h) (Or.inl ⟨by rfl, ?hy11⟩) (by assumption) ?rest11
        case hy11 => (intro u hSu; (try dsimp only at hSu); go_simp; first | done | with_reducible rfl)
        (try simp only [Act.put, List.setIfInBounds_toArray, List.set_cons_zero, List.set_cons_succ])
        refine takeD (i := 14) (v := ?v12) (some 26) rfl rfl (by kernel_rfl) (by kernel_rfl) (by kernel_rfl) (fun _ _ _ h => h) (Or.inl ⟨by rfl, ?hy12⟩) (by assumption) ?rest12
        case hy12 => (intro u hSu; (try dsimp only at hSu); go_simp; first | done | with_reducible rfl)
        (try simp only [Act.put, List.setIfInBounds_toArray, List.set_cons_zero, List.set_cons_succ])
        refine takeD (i := 15) (v := ?v13) (some 27) rfl rfl (by kernel_rfl) (by kernel_rfl) (by kernel_rfl) (fun _ _ _ h => h) (Or.inl ⟨by rfl, ?hy13⟩) (by assumption) ?rest13
        case hy13 => (intro u hSu; (try dsimp only at hSu); go_simp; first | done | with_reducible rfl)
        (try simp only [Act.put, List.setIfInBounds_toArray, List.set_cons_zero, List.set_cons_succ])
        refine wpAnyH_ready (rs := [7]) (by kernel_rfl) (by simp) ?_
        refine AllReadyH.cons rfl (fun K hK => ?_) AllReadyH.nil
        go_simp
        refine (unhide C1 1).mono ?_
        rintro e w' ⟨gm, Lm, cm, rfl, hLm, hcm, ⟨dd1, dd2, dd3⟩, hT⟩
        (try go_wp2_with fail)
        refine hK.out _ _ ⟨dd1, dd2, dd3⟩ (fun hHeld2 => ?_)
        clear hK K
        refine wpAnyH_strong (S' := fun w' => (w'.cell? ⟨w.heap.size, 0, none⟩ = some (.slice (some ⟨g, 0, none⟩) L cap) ∧ w'.cell? ⟨w.heap.size, 1, none⟩ = some (.int .i64 nx) ∧ w'.cell? ⟨g, n * 2, none⟩ = some (.int .i64 kn)) ∧ w'.cell? ⟨gm, 0, none⟩ = some (.int .i64 fn)) (fun _ h => h.1) _ _ _ _ ?_
        have hHeld3 := And.intro hHeld2 hcm
        (try simp only [Act.put, List.setIfInBounds_toArray, List.set_cons_zero, List.set_cons_succ])
        refine takeD (i := 8) (v := ?v14) (some 20) rfl rfl (by kernel_rfl) (by kernel_rfl) (by kernel_rfl) (fun _ _ _ h => h) (Or.inl ⟨by rfl, ?hy14⟩) (by assumption) ?rest14
        case hy14 => (intro u hSu; (try dsimp only at hSu); go_simp; first | done | with_reducible rfl)
        (try simp only [Act.put, List.setIfInBounds_toArray, List.set_cons_zero, List.set_cons_succ])
        refine takeD (i := 9) (v := ?v15) (some 21) rfl rfl (by kernel_rfl) (by kernel_rfl) (by kernel_rfl) (fun _ _ _ h => h) (Or.inl ⟨by rfl, ?hy15⟩) (by assumption) ?rest15
        case hy15 => (intro u hSu; (try dsimp only at hSu); go_simp; first | done | with_reducible rfl)
        (try simp only [Act.put, List.setIfInBounds_toArray, List.set_cons_zero, List.set_cons_succ])
        refine takeD (i := 16) (v := ?v16) (some 28) rfl rfl (by kernel_rfl) (by kernel_rfl) (by kernel_rfl) (fun _ _ _ h => h) (Or.inl ⟨by rfl, ?hy16⟩) (by assumption) ?rest16
        case hy16 => (intro u hSu; (try dsimp only at hSu); go_simp; first | done | with_reducible rfl)
        (try simp only [Act.put, List.setIfInBounds_toArray, List.set_cons_zero, List.set_cons_succ])
        refine wpAnyH_done (by kernel_rfl) ?_ _
        go_wp2_with fail
        go_meet
        case rel => exact ⟨rfl, ⟨dd1, dd2, dd3⟩, unhide hT⟩
      case rest =>
        obtain ⟨rfl, ⟨dd1, dd2, dd3⟩, HT⟩ := hcut
        rename World => wq
        obtain ⟨m1, m2⟩ := unhide HT
        clear C1 HT d0 d1 q1
        cases hfk : (fn == kn) with
        | true =>
          obtain ⟨a', c', w4, p1, p2, p3⟩ := snocInt m2 (unhide HLE) m1.size kn
          have hin := unhide HIN hfk
          have HE : Hid (n3 + 1 = (headsR its (n + 1)).length ∧ Below W.heap.size W w4 ∧ w4.ownsRow W.heap.size 3 1 (.slice a' (n3 + 1) c') (n3 + 1) ((headsR its (n + 1)).map (Value.int .i64))) := by
            rw [hin, List.length_append, List.map_append]
            exact ⟨by rw [← unhide HK1]; rfl, m1.trans p3, p2⟩
          have HR1 := hide p1
          clear p1 p2 p3 m1 m2 hin HIN HOUT hfk
          go_wp2_with (at_builtin; refine Lib.wpList_append_run _ rfl _ _ 37 37 rfl (.slice a3 n3 c3) (.slice (some ⟨wq.heap.size, 0, none⟩) 1 1) rfl rfl _ _ HR1.out ?_)
          go_roundw
          case rel => exact ⟨n + 1, n3 + 1, a', c', by omega, by first | rfl | go_num, rfl, unhide HE⟩
          case measure => simp [intOf]; omega
        | false =>
          have hout := unhide HOUT hfk
          have HE : Hid (n3 = (headsR its (n + 1)).length ∧ Below W.heap.size W wq ∧ wq.ownsRow W.heap.size 3 1 (.slice a3 n3 c3) n3 ((headsR its (n + 1)).map (Value.int .i64))) := by
            rw [hout]
            exact ⟨unhide HK1, m1, m2⟩
          clear m1 m2 hout HIN HOUT hfk
          go_wp2_with fail
          go_roundw
          case rel => exact ⟨n + 1, n3, a3, c3, by omega, by first | rfl | go_num, rfl, unhide HE⟩
          case measure => simp [intOf]; omega
    · have hnz : ¬ (n : Int) < (L : Int) := by omega
      obtain rfl : n = L := by omega
      have HE : Hid (wo.ownsRow w.heap.size 3 1 (.slice a3 n3 c3) (headsR its n).length ((headsR its n).map (Value.int .i64)) ∧ Below w.heap.size w wo) := by
        rw [← k1]
        exact ⟨row_down k3 (unhide HB).size, (unhide HB).trans (k2.mono (unhide HB).size)⟩
      clear HR k1 k2 k3 CM
      go_wp2_with fail
      go_ret
      exact ⟨_, rfl, unhide HE⟩
end Go.Proofs.Ytfhidghjmookhaa
