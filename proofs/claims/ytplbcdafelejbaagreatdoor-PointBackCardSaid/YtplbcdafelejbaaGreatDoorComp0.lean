/- What is proved here: operations one behind the other in a short form: the frame that each leads to is reckoned from what it sets. -/
import Derived.Test.YtplbcdafelejbaaGreatDoorAgg
namespace Go.Proofs.YtplbcdafelejbaaGreatDoor
open Go.RowKit
abbrev ac (l : List Value) : Act := ⟨l.toArray, []⟩
abbrev pz (g : Nat) : Value := .pointer (some ⟨g, 0, none⟩)
abbrev pq (g o : Nat) : Value := .pointer (some ⟨g, o, none⟩)
abbrev CI (f : FuncId) (vs : Array Value) (v : Value) : Prop := ∀ w, Calls Tryz.prog f vs w (Is v w)
section
variable {ops : Array Oper} {rest : List Oper} {o : Oper} {l l' : List Value} {w : World} {Q : Exit → Act → World → Prop} {d : Tmp}
theorem put_ac {d : Tmp} {o : Option Tmp} {l l' : List Value} {v : Value} (hd : o = some d) (hl : l.set d v = l') : (ac l).put o v = ac l' := by
  rw [hd, ← hl]
  simp [Act.put]
theorem sv1 (v : Value) (h : (execOp (ac l).eval o).run Tryz.prog w = .ok (.value v) w) (hn : wpList Tryz.prog ops Q rest (ac l') w) (hd : o.dst = some d := by rfl) (hl : l.set d v = l' := by dsimp only [List.set_cons_zero, List.set_cons_succ] <;> rfl) (hw : Region.wanted o (yielded ops (ac l).tmps) = true := by rfl) : wpList Tryz.prog ops Q (o :: rest) (ac l) w :=
  sq_val (put_ac hd hl) hw h hn
theorem sc1 {f : FuncId} {vs : Array Value} (v : Value) (he : (execOp (ac l).eval o).run Tryz.prog w = .ok (.enter f vs) w) (hC : Calls Tryz.prog f vs w (Is v w)) (hn : ∀ w', Below w.heap.size w w' → wpList Tryz.prog ops Q rest (ac l') w') (hd : o.dst = some d := by rfl) (hl : l.set d v = l' := by dsimp only [List.set_cons_zero, List.set_cons_succ] <;> rfl) (hw : Region.wanted o (yielded ops (ac l).tmps) = true := by rfl) : wpList Tryz.prog ops Q (o :: rest) (ac l) w :=
  sq_call (put_ac hd hl) hw he hC hn
theorem sn1 {ty : TypeId} {xs : List Nat} (h : (execOp (ac l).eval o).run Tryz.prog w = .ok (.value (.pointer (some ⟨w.heap.size, 0, none⟩))) (w.alloc (.cells (cellsOf xs).toArray ty)))
    (hn : ∀ w', Arr ty w' w.heap.size xs → Below w.heap.size w w' → wpList Tryz.prog ops Q rest (ac l') w') (hd : o.dst = some d := by rfl) (hl : l.set d (.pointer (some ⟨w.heap.size, 0, none⟩)) = l' := by dsimp only [List.set_cons_zero, List.set_cons_succ] <;> rfl) (hw : Region.wanted o (yielded ops (ac l).tmps) = true := by rfl) : wpList Tryz.prog ops Q (o :: rest) (ac l) w :=
  sq_new (put_ac hd hl) hw h hn
theorem st1 {t : TypeId} {g : Nat} {xs ys : List Nat} (h : Arr t w g xs) (hl : ys.length = xs.length) (he : (execOp (ac l).eval o).run Tryz.prog w = .ok .skip (w.setCells g 0 (cellsOf ys)))
    (hn : ∀ w', Arr t w' g ys → (∀ (B : Nat) (w0 : World), Below B w0 w → B ≤ g → Below B w0 w') → (∀ (t' : TypeId) (g' : Nat) (zs : List Nat), g' ≠ g → Arr t' w g' zs → Arr t' w' g' zs) → wpList Tryz.prog ops Q rest (ac l) w') (hd : o.dst = none := by rfl) (hw : Region.wanted o (yielded ops (ac l).tmps) = true := by rfl) : wpList Tryz.prog ops Q (o :: rest) (ac l) w :=
  sq_store (by rw [hd]; rfl) hw h hl he hn
theorem sck {w0 : World} {f : FuncId} {x : Operand} {q : List Operand} {tys : Array TypeId} {vs : List Value} {v : Value} {ty : TypeId} {pos : String} {after : Array Edge} {gd : Option (Nat × Bool)} (HB : Below w0.heap.size w0 w) (hc : ∀ (args : Array Value) (w : World), (callFunc f args).run Tryz.prog w = .ok (.enter f args) w) (hC : Calls Tryz.prog f vs.toArray w (Is v w))
    (hn : ∀ w', Below w.heap.size w w' → Below w0.heap.size w0 w' → wpList Tryz.prog ops Q rest (ac l') w') (hx : (ac l).eval x = .func (.func f) #[] #[] := by rfl) (hq : q.map (ac l).eval = vs := by rfl) (hl : l.set d v = l' := by dsimp only [List.set_cons_zero, List.set_cons_succ] <;> rfl) (hw : Region.wanted ⟨some d, .call ⟨.value x, q.toArray, tys⟩, ty, pos, after, gd⟩ (yielded ops (ac l).tmps) = true := by rfl) : wpList Tryz.prog ops Q (⟨some d, .call ⟨.value x, q.toArray, tys⟩, ty, pos, after, gd⟩ :: rest) (ac l) w :=
  sc1 v (ex_call hx hc hq) hC (fun w' h => hn w' h (below_then HB h)) rfl hl hw
theorem sch {w0 : World} {f : FuncId} {vs : Array Value} (HB : Below w0.heap.size w0 w) (v : Value) (he : (execOp (ac l).eval o).run Tryz.prog w = .ok (.enter f vs) w) (hC : Calls Tryz.prog f vs w (Is v w)) (hn : ∀ w', Below w.heap.size w w' → Below w0.heap.size w0 w' → wpList Tryz.prog ops Q rest (ac l') w') (hd : o.dst = some d := by rfl) (hl : l.set d v = l' := by dsimp only [List.set_cons_zero, List.set_cons_succ] <;> rfl) (hw : Region.wanted o (yielded ops (ac l).tmps) = true := by rfl) : wpList Tryz.prog ops Q (o :: rest) (ac l) w :=
  sc1 v he hC (fun w' h => hn w' h (below_then HB h)) hd hl hw
theorem brf (w : World) : Below w.heap.size w w := Below.refl _ w
end
end Go.Proofs.YtplbcdafelejbaaGreatDoor
