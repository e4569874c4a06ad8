/- spec: steps of a region in open order: nil checks, a slice of one, stores. -/
import Derived.Test.YthjfhenldkihkaaSpU
import Derived.Test.YthjfhenldkihkaaSpSa
namespace Go.Proofs.Ythjfhenldkihkaa
set_option linter.unusedSimpArgs false
set_option linter.unusedVariables false
open Go.RowKit

theorem info_nodeZ : (Try.prog.info? 49).map (fun i => (i.zero, i.size, i.bytes)) = some (some (.agg nvZ.cells.toArray), 18, 216) := by kernel_rfl
section
variable {P : Program} {o : Oper} {a : Act} {w : World} {K : Act → World → Prop} {Q : Exit → Act → World → Prop}
theorem wp_nilG (x : Operand) (ho : o.op = .nilCheck x) (p : Addr) (hx : a.eval x = .pointer (some p)) (h : K (a.put o.dst (.pointer (some p))) w) : o.wp P a w K Q := by
  unfold Oper.wp
  have e : (execOp a.eval o).run P w = .ok (.value (.pointer (some p))) w := by
    unfold execOp
    simp only [ho, hx]
    go_simp
  rw [e]
  exact h
end
variable {o : Oper} {a : Act} {w : World} {K : Act → World → Prop} {Q : Exit → Act → World → Prop}
theorem wp_build1N (i : Nat) (ho : o.op = .buildSlice 22 1 #[(0, .tmp i)]) (v : NV) (hx : a.eval (.tmp i) = .agg v.cells.toArray) (h : K (a.put o.dst (.slice (some ⟨w.heap.size, 0, none⟩) 1 1)) (w.alloc (.cells v.cells.toArray 49))) : o.wp Try.prog a w K Q := by
  unfold Oper.wp
  have hx' : a.tmps[i]?.getD undef = .agg v.cells.toArray := by unfold Act.eval at hx; simpa using hx
  have e : (execOp a.eval o).run Try.prog w = .ok (.value (.slice (some ⟨w.heap.size, 0, none⟩) 1 1)) (w.alloc (.cells v.cells.toArray 49)) := by
    unfold execOp
    simp only [ho]
    go_simp
    simp [NV.cells, newObj]
    rfl
  rw [e]
  exact h
theorem size_slN (w : World) : (sizeOf 22).run Try.prog w = .ok 1 w := by kernel_rfl
set_option maxRecDepth 10000 in
theorem wp_storeN (x y : Operand) (ho : o.op = .store 22 x y) (p : Addr) (hx : a.eval x = .pointer (some p)) (A : Option Addr) (n c : Nat) (hy : a.eval y = .slice A n c) (u : Value) (hc : w.cell? p = some u) (hf : w.frozen? p = false) (h : K (a.put o.dst undef) (w.setCell p (.slice A n c))) : o.wp Try.prog a w K Q := by
  unfold Oper.wp
  have e : (execOp a.eval o).run Try.prog w = .ok .skip (w.setCell p (.slice A n c)) := by
    unfold execOp
    simp only [ho, hx, hy]
    go_simp
  rw [e, Oper.upon_skip]
  exact h
theorem wp_appN (s x : Operand) (ho : o.op = .call { callee := .builtin .append, args := #[s, x], argTypes := #[22, 22] }) (hty : o.type = 22)
    (base : Nat) (v : Value) (n : Nat) (xs : List Value) (hs : a.eval s = v) (hown : w.ownsRow base 49 18 v n xs) (g : Nat) (V : NV) (hx : a.eval x = .slice (some ⟨g, 0, none⟩) 1 1) (hr : Blk w g 49 V.cells) (hb : n ≤ 1048576) (hbase : base ≤ w.heap.size)
    (h : ∀ v' w', w'.ownsRow base 49 18 v' (n + 1) (xs ++ V.cells) → w.grownBy w' v.ownBlock → (v'.ownBlock = v.ownBlock ∨ v'.ownBlock = some w.heap.size) → K (a.put o.dst v') w') : o.wp Try.prog a w K Q := by
  obtain ⟨i0, hi0, hz0, hz1, hz2⟩ := info_parts info_nodeZ
  obtain ⟨v', w', h1, h2, h3, _, h5⟩ := run_append_own_at (P := Try.prog) w base 22 22 49 i0 _ 18 216 Try.underlying22 hi0 hz0 hz1 hz2 rfl (by decide) v n xs hown ⟨g, 0, none⟩ 1 1 V.cells rfl (fun j u hj => by rw [addr_add, Nat.zero_add, Blk.at hr j]; exact hj) (nv_ones V) (by unfold maxLen; omega) (by omega) hbase
  unfold Oper.wp execOp
  simp only [ho, hty, resolve, invoke, builtin, Sem.run_bind, Sem.run_pure, Result.andThen_ok, List.map_toArray, List.map_cons, List.map_nil, hs, hx, h1]
  exact h _ _ h2 h3 h5
end Go.Proofs.Ythjfhenldkihkaa
