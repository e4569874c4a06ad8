/- spec: a Builder's state; Name. -/
import Derived.Test.YtfcccfplmdjndaaGreatSpN
import Derived.Test.YtfcccfplmdjndaaGreatSpR
import Derived.Test.YtfcccfplmdjndaaGreatSpSa
namespace Go.Proofs.YtfcccfplmdjndaaGreat
set_option linter.unusedSimpArgs false
set_option linter.unusedVariables false
open Go.RowKit

theorem OwnL.chg {w w' : World} {base : Nat} {T : TypeId} {s : SV} {xs : List Value} {S : Nat → Prop} (h : OwnL w base T s xs) (hc : Chg w w' S) (hS : ∀ g cs, Blk w g T cs → ¬ S g) : OwnL w' base T s xs := by
 rcases h with h | ⟨g, e, hg, hB⟩
 ·exact .inl h
 ·exact .inr ⟨g, e, hg, hB.chg hc (hS g _ hB)⟩
theorem NodeOwn.chg {w w' : World} {base : Nat} {x : NV} {S : Nat → Prop} (h : NodeOwn w base x) (hc : Chg w w' S) (hS : ∀ T g cs, (T = 3 ∨ T = 4 ∨ T = 64 ∨ T = 121) → Blk w g T cs → ¬ S g) : NodeOwn w' base x :=
 ⟨h.kn, h.ln, h.fn, h.cn, h.k.chg hc (fun g cs hb => hS _ g cs (.inl rfl) hb), h.l.chg hc (fun g cs hb => hS _ g cs (.inr (.inl rfl)) hb), h.f.chg hc (fun g cs hb => hS _ g cs (.inr (.inr (.inl rfl))) hb), h.c.chg hc (fun g cs hb => hS _ g cs (.inr (.inr (.inr rfl))) hb)⟩
structure BOk (w : World) (pb base : Nat) (vs : List NV) (ds : List DT) (nv dv : Value) : Prop where
 bo : Blk w pb 41 [nv, dv]
 rn : w.ownsRow base 54 18 nv vs.length (flatN vs)
 rd : w.ownsRow base 43 2 dv ds.length (flatD ds)
 each : ∀ v ∈ vs, NodeOwn w base v
theorem blk_type {w : World} {g : Nat} {T U : TypeId} {cs ds : List Value} (h : Blk w g T cs) (k : Blk w g U ds) : T = U := by
 unfold Blk at h k
 rw [h] at k
 injection k with k
 injection k with _ k
theorem own_type {w : World} {base g sz n : Nat} {T U : TypeId} {v : Value} {xs cs : List Value} (h : w.ownsRow base T sz v n xs) (hv : v.ownBlock = some g) (k : Blk w g U cs) : T = U := by
 rcases Decidable.em (T = U) with e | e
 ·exact e
 ·exact absurd hv (own_neN h k e)
theorem own_two {w : World} {base base' g sz sz' n n' : Nat} {T U : TypeId} {v u : Value} {xs ys : List Value} (h : w.ownsRow base T sz v n xs) (k : w.ownsRow base' U sz' u n' ys) (hv : v.ownBlock = some g) (hu : u.ownBlock = some g) : T = U := by
 rcases k.2 with ⟨rfl, _⟩ | ⟨g', cap, cur, rfl, _, hh, _⟩
 ·cases hu
 ·injection hu with hu
  subst hu
  exact own_type h hv (cs := cur.toList) (by simpa [Blk] using hh)
theorem inner_ne {T : TypeId} (hT : T = 3 ∨ T = 4 ∨ T = 64 ∨ T = 121) : T ≠ 41 ∧ T ≠ 54 ∧ T ≠ 43 := by
 rcases hT with rfl | rfl | rfl | rfl <;> decide
theorem BOk.keep {w w' : World} {pb base : Nat} {vs : List NV} {ds : List DT} {nv dv : Value} (h : BOk w pb base vs ds nv dv) (hb : Below w.heap.size w w') : BOk w' pb base vs ds nv dv :=
 ⟨h.bo.keep hb, owns_keep h.rn (fun b _ hl => hb.block b hl), owns_keep h.rd (fun b _ hl => hb.block b hl), fun v hv => (h.each v hv).keep hb⟩
theorem BOk.name {w w1 w' : World} {pb base : Nat} {vs : List NV} {ds : List DT} {nv dv dv' : Value} {d : DT} (h : BOk w pb base vs ds nv dv) (hb : Below w.heap.size w w1) (hg : w1.grownBy w' dv.ownBlock) (hr : w'.ownsRow base 43 2 dv' (ds.length + 1) (flatD ds ++ d.cells)) :
  BOk (w'.setCell ⟨pb, 1, none⟩ dv') pb base vs (ds ++ [d]) nv dv' := by
 have h1 := h.keep hb
 have hc : Chg w1 (w'.setCell ⟨pb, 1, none⟩ dv') (fun k => k = pb ∨ dv.ownBlock = some k) := ((Chg.of_grown hg).more (fun k _ hk => .inr hk)).set pb 1 (.inl rfl) _
 have hc0 : Chg w1 w' (fun k => dv.ownBlock = some k) := Chg.of_grown hg
 refine ⟨?_, ?_, ?_, fun v hv => (h1.each v hv).chg hc ?_⟩
 ·have hb1 : Blk w' pb 41 [nv, dv] := h1.bo.chg hc0 (fun e => absurd (own_type h1.rd e h1.bo) (by decide))
  have := hb1.put 1 dv'
  simpa using this
 ·refine owns_chg h1.rn hc (fun k hk => ?_)
  rintro (e | e)
  ·subst e
   exact absurd (own_type h1.rn hk h1.bo) (by decide)
  ·exact absurd (own_two h1.rn h1.rd hk e) (by decide)
 ·have e1 : flatD (ds ++ [d]) = flatD ds ++ d.cells := by simp [flatD]
  rw [e1, List.length_append]
  refine owns_chg hr ((Chg.refl w' (fun k => k = pb)).set pb 1 rfl _) (fun k hk => ?_)
  intro e
  rw [e] at hk
  have hb1 : Blk w' pb 41 [nv, dv] := h1.bo.chg hc0 (fun e => absurd (own_type h1.rd e h1.bo) (by decide))
  exact absurd (own_type hr hk hb1) (by decide)
 ·intro T g cs hT hB
  have hne := inner_ne hT
  rintro (e | e)
  ·rw [e] at hB; exact hne.1 (blk_type hB h1.bo)
  ·exact hne.2.2 (own_type h1.rd e hB).symm
end Go.Proofs.YtfcccfplmdjndaaGreat

/- spec: a Builder's Name. -/
namespace Go.Proofs.YtfcccfplmdjndaaGreat
set_option linter.unusedSimpArgs false
set_option linter.unusedVariables false
open Go.RowKit

theorem BOk.at0 {w : World} {pb base : Nat} {vs : List NV} {ds : List DT} {nv dv : Value} (h : BOk w pb base vs ds nv dv) : w.cell? ⟨pb, 0, none⟩ = some nv := Blk.at h.bo 0
theorem BOk.at1 {w : World} {pb base : Nat} {vs : List NV} {ds : List DT} {nv dv : Value} (h : BOk w pb base vs ds nv dv) : w.cell? ⟨pb, 1, none⟩ = some dv := Blk.at h.bo 1
end Go.Proofs.YtfcccfplmdjndaaGreat

/- spec: steps of a region in open order: nil checks, a slice of one, stores. -/
namespace Go.Proofs.YtfcccfplmdjndaaGreat
set_option linter.unusedSimpArgs false
set_option linter.unusedVariables false
open Go.RowKit

theorem info_nodeZ : (Tryz.prog.info? 54).map (fun i => (i.zero, i.size, i.bytes)) = some (some (.agg nvZ.cells.toArray), 18, 216) := by kernel_rfl
section
variable {P : Program} {o : Oper} {a : Act} {w : World} {K : Act → World → Prop} {Q : Exit → Act → World → Prop}
theorem wp_nilG (x : Operand) (ho : o.op = .nilCheck x) (p : Addr) (hx : a.eval x = .pointer (some p)) (h : K (a.put o.dst (.pointer (some p))) w) : o.wp P a w K Q := by
 unfold Oper.wp
 have e : (execOp a.eval o).run P w = .ok (.value (.pointer (some p))) w := by
  unfold execOp
  simp only [ho, hx]
  go_simp
 rw [e]
 exact h
end
variable {o : Oper} {a : Act} {w : World} {K : Act → World → Prop} {Q : Exit → Act → World → Prop}
theorem wp_build1N (i : Nat) (ho : o.op = .buildSlice 29 1 #[(0, .tmp i)]) (v : NV) (hx : a.eval (.tmp i) = .agg v.cells.toArray) (h : K (a.put o.dst (.slice (some ⟨w.heap.size, 0, none⟩) 1 1)) (w.alloc (.cells v.cells.toArray 54))) : o.wp Tryz.prog a w K Q := by
 unfold Oper.wp
 have hx' : a.tmps[i]?.getD undef = .agg v.cells.toArray := by unfold Act.eval at hx; simpa using hx
 have e : (execOp a.eval o).run Tryz.prog w = .ok (.value (.slice (some ⟨w.heap.size, 0, none⟩) 1 1)) (w.alloc (.cells v.cells.toArray 54)) := by
  unfold execOp
  simp only [ho]
  go_simp
  simp [NV.cells, newObj]
  rfl
 rw [e]
 exact h
set_option maxRecDepth 10000 in
theorem wp_storeN (x y : Operand) (ho : o.op = .store 29 x y) (p : Addr) (hx : a.eval x = .pointer (some p)) (A : Option Addr) (n c : Nat) (hy : a.eval y = .slice A n c) (u : Value) (hc : w.cell? p = some u) (hf : w.frozen? p = false) (h : K (a.put o.dst undef) (w.setCell p (.slice A n c))) : o.wp Tryz.prog a w K Q := by
 unfold Oper.wp
 have e : (execOp a.eval o).run Tryz.prog w = .ok .skip (w.setCell p (.slice A n c)) := by
  unfold execOp
  simp only [ho, hx, hy]
  go_simp
 rw [e, Oper.upon_skip]
 exact h
theorem wp_appN (s x : Operand) (ho : o.op = .call { callee := .builtin .append, args := #[s, x], argTypes := #[29, 29] }) (hty : o.type = 29)
  (base : Nat) (v : Value) (n : Nat) (xs : List Value) (hs : a.eval s = v) (hown : w.ownsRow base 54 18 v n xs) (g : Nat) (V : NV) (hx : a.eval x = .slice (some ⟨g, 0, none⟩) 1 1) (hr : Blk w g 54 V.cells) (hb : n ≤ 1048576) (hbase : base ≤ w.heap.size)
  (h : ∀ v' w', w'.ownsRow base 54 18 v' (n + 1) (xs ++ V.cells) → w.grownBy w' v.ownBlock → (v'.ownBlock = v.ownBlock ∨ v'.ownBlock = some w.heap.size) → K (a.put o.dst v') w') : o.wp Tryz.prog a w K Q := by
 obtain ⟨i0, hi0, hz0, hz1, hz2⟩ := info_parts info_nodeZ
 obtain ⟨v', w', h1, h2, h3, _, h5⟩ := run_append_own_at (P := Tryz.prog) w base 29 29 54 i0 _ 18 216 Tryz.underlying29 hi0 hz0 hz1 hz2 rfl (by decide) v n xs hown ⟨g, 0, none⟩ 1 1 V.cells rfl (fun j u hj => by rw [addr_add, Nat.zero_add, Blk.at hr j]; exact hj) (nv_ones V) (by unfold maxLen; omega) (by omega) hbase
 unfold Oper.wp execOp
 simp only [ho, hty, resolve, invoke, builtin, Sem.run_bind, Sem.run_pure, Result.andThen_ok, List.map_toArray, List.map_cons, List.map_nil, hs, hx, h1]
 exact h _ _ h2 h3 h5
end Go.Proofs.YtfcccfplmdjndaaGreat
