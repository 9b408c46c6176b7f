/- What is proved here: what appending a row of limbs to a row that the call has made itself leaves; a contract of the law package's cut. -/
import Derived.Test.YtkkmekdhejhapaaGreatOwn
import Derived.Laws.AppendOwnNone
namespace Go.Proofs.YtkkmekdhejhapaaGreat
open Go.RowKit
def OwnS (w : World) (base : Nat) (v : Value) (xs : List Nat) : Prop := w.ownsRow base 22 1 v xs.length (cellsOf xs)
theorem cellsOf_append (xs ys : List Nat) : cellsOf (xs ++ ys) = cellsOf xs ++ cellsOf ys := by simp [cellsOf]
theorem length_cellsOf (xs : List Nat) : (cellsOf xs).length = xs.length := by simp [cellsOf]
theorem OwnS.alloc {w : World} {base : Nat} {v : Value} {xs : List Nat} (h : OwnS w base v xs) (o : Obj) : OwnS (w.alloc o) base v xs := World.ownsRow.alloc h o
theorem OwnS.shape {w : World} {base : Nat} {v : Value} {xs : List Nat} (h : OwnS w base v xs) (hs : Small xs) :
    ∃ ad cap, v = .slice ad xs.length cap ∧ xs.length ≤ cap ∧ cap ≤ maxLen ∧ (ad = none → cap = 0) ∧ View w ad xs.length xs ∧ ∀ k, v.ownBlock = some k → base ≤ k := by
  rcases h.2 with ⟨rfl, hn⟩ | ⟨g, cap, cur, rfl, hg, hh, hnc, hcm, hcs, htake⟩
  · have e : xs = [] := List.length_eq_zero_iff.1 hn
    subst e
    exact ⟨none, 0, rfl, Nat.le_refl _, Nat.zero_le _, fun _ => rfl, ⟨rfl, hs, fun i hi => absurd hi (by simp)⟩, fun k hk => by cases hk⟩
  · refine ⟨_, cap, rfl, hnc, hcm, fun e => (by cases e), ⟨rfl, hs, fun i hi => ⟨g, 0, rfl, ?_, ?_⟩⟩, fun k hk => ?_⟩
    · rcases Nat.lt_or_ge g w.heap.size with l | l
      · exact l
      · rw [Array.getElem?_eq_none l] at hh; cases hh
    · rw [Nat.zero_add, cell_of_row w g i cur _ (0, 0) hh, ← cellsOf_get hi, ← htake, List.getElem?_take, if_pos (by omega)]
      simp
    · simp only [Value.ownBlock, Option.some.injEq] at hk
      omega
theorem wpList_append_view (w : World) {ops : Array Oper} {rest : List Oper} {o : Oper} {a : Act} {Q : Exit → Act → World → Prop}
    (hw : Region.wanted o (yielded ops a.tmps) = true) (s x : Operand) (hop : o.op = .call { callee := .builtin .append, args := #[s, x], argTypes := #[103, 103] })
    (base : Nat) (v : Value) (xs : List Nat) (hs : a.eval s = v) (hown : OwnS w base v xs) (hsx : Small xs)
    (ad : Option Addr) (n c : Nat) (ys : List Nat) (hx : a.eval x = .slice ad n c) (hc0 : ad = none → c = 0) (hv : View w ad n ys) (hb : xs.length + n ≤ 1000) (hbase : base ≤ w.heap.size)
    (h : ∀ (ad' : Option Addr) (cap' : Nat) (w' : World), OwnS w' base (.slice ad' (xs.length + n) cap') (xs ++ ys) → View w' ad' (xs.length + n) (xs ++ ys) → xs.length + n ≤ cap' → cap' ≤ maxLen → (ad' = none → cap' = 0) → Below base w w' → wpList Tryz.prog ops Q rest (a.put o.dst (.slice ad' (xs.length + n) cap')) w') :
    wpList Tryz.prog ops Q (o :: rest) a w := by
  obtain ⟨i, hi, hz0, hz1, hz2⟩ := info_parts Tryz.infoU
  have hlen : (xs ++ ys).length = xs.length + n := by rw [List.length_append, hv.len]
  have hsm : Small (xs ++ ys) := fun y hy => by
    rcases List.mem_append.1 hy with h1 | h1
    · exact hsx y h1
    · exact hv.small y h1
  obtain ⟨adv, cpv, rfl, hle, hmx, hnn, hvv, hbl⟩ := hown.shape hsx
  cases had : ad with
  | none =>
    subst had
    have hn0 : n = 0 := by
      rcases Nat.eq_zero_or_pos n with h0 | h0
      · exact h0
      · obtain ⟨b, off, e, _⟩ := hv.cell 0 h0
        cases e
    subst hn0
    have hc := hc0 rfl
    subst hc
    have hys : ys = [] := List.length_eq_zero_iff.1 hv.len
    subst hys
    refine wpList_step fun K hK => ?_
    rw [if_pos hw]
    have hrun := run_append_owned_none (P := Tryz.prog) (w := w) base 103 o.type 22 i 1 Tryz.underlying103 hi _ xs.length (cellsOf xs) hown
    have hgo := h adv cpv w (by simpa using hown) (by simpa using hvv) (by simpa using hle) hmx hnn (Below.refl _ _)
    unfold Oper.wp
    simp [execOp, hop, resolve, invoke, builtin, hs, hx, hrun, Result.andThen]
    exact hK _ _ (by simpa using hgo)
  | some a0 =>
    subst had
    refine wpList_step fun K hK => ?_
    rw [if_pos hw]
    refine wp_append_own w s x _ hop base 22 i (.int .u64 0) 1 8 Tryz.underlying103 hi hz0 hz1 hz2 rfl (by decide) _ xs.length (cellsOf xs) hs hown a0 n c (cellsOf ys) hx (by rw [length_cellsOf, hv.len]; omega) ?_ ?_ (by unfold maxLen; omega) (by omega) hbase ?_
    · intro j u hj
      have hjn : j < n := by
        have := (List.getElem?_eq_some_iff.1 hj).1
        rw [length_cellsOf, hv.len] at this
        exact this
      obtain ⟨b, off, e, _, hcell⟩ := hv.cell j hjn
      simp only [Option.some.injEq] at e
      subst e
      rw [cellsOf_get (by rw [hv.len]; exact hjn)] at hj
      cases hj
      rw [Go.WideShapes.add_plain]
      exact hcell
    · intro u hu
      simp only [cellsOf, List.mem_map] at hu
      obtain ⟨y, _, rfl⟩ := hu
      rfl
    · intro v' w' hown' hgrow _
      have hown2 : OwnS w' base v' (xs ++ ys) := by
        unfold OwnS
        rw [hlen, cellsOf_append]
        exact hown'
      obtain ⟨ad', cap', rfl, hle', hmx', hnn', hvv', _⟩ := hown2.shape hsm
      rw [hlen] at hle' hvv' hown2 ⊢
      exact hK _ _ (h ad' cap' w' hown2 hvv' hle' hmx' hnn' ((Below.refl _ _).grown hgrow hbase hbl))
theorem wpList_append_to (w : World) {ops : Array Oper} {rest : List Oper} {o : Oper} {a : Act} {Q : Exit → Act → World → Prop}
    (hw : Region.wanted o (yielded ops a.tmps) = true) (s x : Operand) (hop : o.op = .call { callee := .builtin .append, args := #[s, x], argTypes := #[103, 103] })
    (base : Nat) (v : Value) (xs : List Nat) (m : Nat) (hm : xs.length = m) (hs : a.eval s = v) (hown : OwnS w base v xs) (hsx : Small xs)
    (ad : Option Addr) (n c : Nat) (ys : List Nat) (hx : a.eval x = .slice ad n c) (hc0 : ad = none → c = 0) (hv : View w ad n ys) (hb : m + n ≤ 1000) (hbase : base ≤ w.heap.size)
    (t : Nat) (ht : m + n = t) (zs : List Nat) (hz : xs ++ ys = zs)
    (h : ∀ (ad' : Option Addr) (cap' : Nat) (w' : World), OwnS w' base (.slice ad' t cap') zs → View w' ad' t zs → t ≤ cap' → cap' ≤ maxLen → (ad' = none → cap' = 0) → Below base w w' → wpList Tryz.prog ops Q rest (a.put o.dst (.slice ad' t cap')) w') :
    wpList Tryz.prog ops Q (o :: rest) a w := by
  subst hm ht hz
  exact wpList_append_view w hw s x hop base v xs hs hown hsx ad n c ys hx hc0 hv hb hbase h
end Go.Proofs.YtkkmekdhejhapaaGreat
