/- append as a step of a region that draws its order. -/
import Derived.Test.YtagibmgbjhemkaaGreatCut
import Derived.Deep.RegionLaw
import Derived.Maps.AppendAt
namespace Go.Proofs.YtagibmgbjhemkaaGreat
open Go.RowKit Go.Maps

theorem step_append_run {P : Program} {ops : Array Oper} {o : Oper} {a : Act} {w : World} {K : Act → World → Prop} {Q : Exit → Act → World → Prop} {E : Prop}
    (hg : o.guard = none) (s x : Operand) (t : TypeId) (hop : o.op = Op.call { callee := Callee.builtin Builtin.append, args := #[s, x], argTypes := #[t, t] }) (v1 v2 : Value) (hs : a.eval s = v1) (hx : a.eval x = v2) (v' : Value) (w' : World)
    (hrun : (Builtin.append_ #[t, t] o.type #[v1, v2]).run P w = .ok v' w') (hK : K (a.put o.dst v') w') :
    if Region.wanted o (yielded ops a.tmps) = true then Oper.wp P o a w K Q else E := by
  have hw : Region.wanted o (yielded ops a.tmps) = true := by simp [Region.wanted, hg]
  rw [if_pos hw]
  unfold Oper.wp
  simp only [execOp, hop, resolve, invoke, builtin, Sem.run_bind, Sem.run_pure, Result.andThen_ok, List.map_toArray, List.map_cons, List.map_nil, hs, hx, hrun]
  exact hK

theorem cell_turned {W w2 : World} {m : Nat} (ht : W.mapTurned w2 m) (x : Addr) (hx : x.block ≠ m) : w2.cell? x = W.cell? x := by
  obtain ⟨es, cl, es', cl', hb', rfl⟩ := ht
  exact cell_of_heap (ChangeMaps.heap_setBlock_other hb' _ hx)

theorem Turned.then_ {S T : Nat → Prop} {a b c : World} (h : Turned S a b) (k : Turned T b c) (hs : ∀ i, i < a.heap.size → T i → S i) : Turned S a c :=
  ⟨k.os.trans h.os, k.tape.trans h.tape, k.output.trans h.output, Nat.le_trans h.size k.size, fun i hi hn => (k.block i (Nat.lt_of_lt_of_le hi h.size) (fun t => hn (hs i hi t))).trans (h.block i hi hn)⟩

theorem equalIn_func {P : Program} (w : World) (d : Nat) (t : TypeId) (ps rs : Array TypeId) (vr : Bool) (f : Fn) (cb : Array Value) (h : P.underlying t = some (.func ps rs vr)) :
    (Op.equalIn (d + 1) t (.func f #[] cb) .nilFunc).run P w = .ok false w := by
  simp [Op.equalIn, run_underlying h]

theorem eql_func (f : Fn) (cb : Array Value) (w : World) : (binOp .eql 163 (.func f #[] cb) .nilFunc).run Tryz.prog w = .ok (.bool false) w := by
  simp only [binOp]
  simp [Op.equal, Op.maxDepth, equalIn_func w 9999 163 _ _ _ f cb Tryz.underlying163]

theorem cells_new3 (w : World) (x y z : Value) (t : TypeId) : ∀ j u, [x, y, z][j]? = some u → (w.alloc (.cells #[x, y, z] t)).drew.cell? ((⟨w.heap.size, 0, none⟩ : Addr).add j) = some u := by
  intro j u hj
  have add : (⟨w.heap.size, 0, none⟩ : Addr).add j = ⟨w.heap.size, j, none⟩ := by unfold Addr.add; split <;> simp_all
  rw [add]
  have h1 : j < 3 := by
    have := (List.getElem?_eq_some_iff.1 hj).1
    simpa using this
  show (w.alloc (.cells #[x, y, z] t)).cell? _ = _
  rw [World.cell?_alloc_at _ _ _ _ (by simp)]
  match j, h1 with
  | 0, _ => simpa using hj
  | 1, _ => simpa using hj
  | 2, _ => simpa using hj
end Go.Proofs.YtagibmgbjhemkaaGreat
