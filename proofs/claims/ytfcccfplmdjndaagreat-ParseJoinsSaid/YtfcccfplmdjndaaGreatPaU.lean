/- parse: a Builder within a block of whatever type; what it owns. -/
import Derived.Test.YtfcccfplmdjndaaGreatSpWa
namespace Go.Proofs.YtfcccfplmdjndaaGreat
set_option linter.unusedSimpArgs false
set_option linter.unusedVariables false
open Go.RowKit

def OwnO (w : World) (O : Nat → Prop) (T : TypeId) (s : SV) (xs : List Value) : Prop :=
 (s = SV.nil ∧ xs = []) ∨ ∃ g, s = ⟨some ⟨g, 0, none⟩, s.n, s.n⟩ ∧ O g ∧ Blk w g T xs
theorem OwnO.rw_ {w : World} {O : Nat → Prop} {T : TypeId} {s : SV} {xs : List Value} (h : OwnO w O T s xs) : Rw w O s xs := by
 rcases h with ⟨rfl, rfl⟩ | ⟨g, e, hg, hB⟩
 ·exact Rw.nil _ _ _
 ·have hA : s.A = some ⟨g, 0, none⟩ := congrArg SV.A e
  refine ⟨fun h => ?_, fun _ => ⟨g, 0, hA, hB.lt, hg, fun j hj => ?_⟩⟩
  ·rw [hA] at h; cases h
  ·rw [Nat.zero_add, Blk.at hB, List.getElem?_eq_getElem hj]
theorem OwnO.chg {w w' : World} {O O' S : Nat → Prop} {T : TypeId} {s : SV} {xs : List Value} (h : OwnO w O T s xs) (hc : Chg w w' S) (hS : ∀ g cs, Blk w g T cs → O g → ¬ S g) (hO : ∀ g, O g → O' g) : OwnO w' O' T s xs := by
 rcases h with h | ⟨g, e, hg, hB⟩
 ·exact .inl h
 ·exact .inr ⟨g, e, hO g hg, hB.chg hc (hS g _ hB hg)⟩
theorem OwnO.of {w : World} {base : Nat} {O : Nat → Prop} {T : TypeId} {s : SV} {xs : List Value} (h : OwnL w base T s xs) (hO : ∀ g, base ≤ g → g < w.heap.size → O g) : OwnO w O T s xs := by
 rcases h with h | ⟨g, e, hg, hB⟩
 ·exact .inl h
 ·exact .inr ⟨g, e, hO g hg hB.lt, hB⟩
structure NodeO (w : World) (O : Nat → Prop) (x : NV) : Prop where
 kn : x.K.n = x.t.ks.length
 ln : x.L.n = x.t.ls.length
 fn : x.F.n = x.t.fs.length
 cn : x.C.n = x.t.cs.length
 k : OwnO w O 3 x.K (intC x.t.ks)
 l : OwnO w O 4 x.L (boolC x.t.ls)
 f : OwnO w O 64 x.F (flatF x.t.fs)
 c : OwnO w O 121 x.C (flatC x.t.cs)
def Inner (T : TypeId) : Prop := T = 3 ∨ T = 4 ∨ T = 64 ∨ T = 121
theorem NodeO.chg {w w' : World} {O O' S : Nat → Prop} {x : NV} (h : NodeO w O x) (hc : Chg w w' S) (hS : ∀ T g cs, Inner T → Blk w g T cs → O g → ¬ S g) (hO : ∀ g, O g → O' g) : NodeO w' O' x :=
 ⟨h.kn, h.ln, h.fn, h.cn, h.k.chg hc (fun g cs hb => hS _ g cs (.inl rfl) hb) hO, h.l.chg hc (fun g cs hb => hS _ g cs (.inr (.inl rfl)) hb) hO, h.f.chg hc (fun g cs hb => hS _ g cs (.inr (.inr (.inl rfl))) hb) hO, h.c.chg hc (fun g cs hb => hS _ g cs (.inr (.inr (.inr rfl))) hb) hO⟩
theorem NodeO.of {w : World} {base : Nat} {O : Nat → Prop} {x : NV} (h : NodeOwn w base x) (hO : ∀ g, base ≤ g → g < w.heap.size → O g) : NodeO w O x :=
 ⟨h.kn, h.ln, h.fn, h.cn, .of h.k hO, .of h.l hO, .of h.f hO, .of h.c hO⟩
theorem NodeO.ok {w : World} {O : Nat → Prop} {x : NV} (h : NodeO w O x) : NodeOk w O x :=
 ⟨h.kn, h.ln, h.fn, h.cn, h.k.rw_, h.l.rw_, h.f.rw_, h.c.rw_⟩
def BT (T : TypeId) : Prop := T ≠ 54 ∧ T ≠ 43 ∧ ¬ Inner T
structure BO (w : World) (O : Nat → Prop) (T : TypeId) (cs : List Value) (pb po : Nat) (vs : List NV) (ds : List DT) (nv dv : Value) : Prop where
 bo : Blk w pb T cs
 ht : BT T
 c0 : cs[po]? = some nv
 c1 : cs[po + 1]? = some dv
 rn : w.ownsRow 0 54 18 nv vs.length (flatN vs)
 rd : w.ownsRow 0 43 2 dv ds.length (flatD ds)
 each : ∀ v ∈ vs, NodeO w O v
 og : O pb
 on : ∀ b, nv.ownBlock = some b → O b
 od : ∀ b, dv.ownBlock = some b → O b
 lt : ∀ b, O b → b < w.heap.size
theorem BO.at0 {w : World} {O : Nat → Prop} {T : TypeId} {cs : List Value} {pb po : Nat} {vs : List NV} {ds : List DT} {nv dv : Value} (h : BO w O T cs pb po vs ds nv dv) : w.cell? ⟨pb, po, none⟩ = some nv := by rw [Blk.at h.bo po]; exact h.c0
theorem BO.at1 {w : World} {O : Nat → Prop} {T : TypeId} {cs : List Value} {pb po : Nat} {vs : List NV} {ds : List DT} {nv dv : Value} (h : BO w O T cs pb po vs ds nv dv) : w.cell? ⟨pb, po + 1, none⟩ = some dv := by rw [Blk.at h.bo (po + 1)]; exact h.c1
theorem BO.chg {w w' : World} {O S : Nat → Prop} {T : TypeId} {cs : List Value} {pb po : Nat} {vs : List NV} {ds : List DT} {nv dv : Value} (h : BO w O T cs pb po vs ds nv dv) (hc : Chg w w' S) (hS : ∀ b, O b → ¬ S b) : BO w' O T cs pb po vs ds nv dv :=
 ⟨h.bo.chg hc (hS _ h.og), h.ht, h.c0, h.c1, owns_chg h.rn hc (fun k hk => hS k (h.on k hk)), owns_chg h.rd hc (fun k hk => hS k (h.od k hk)), fun v hv => (h.each v hv).chg hc (fun _ g _ _ _ ho => hS g ho) (fun _ hg => hg), h.og, h.on, h.od, fun b hb => Nat.lt_of_lt_of_le (h.lt b hb) hc.size⟩
theorem BO.keep {w w' : World} {O : Nat → Prop} {T : TypeId} {cs : List Value} {pb po : Nat} {vs : List NV} {ds : List DT} {nv dv : Value} (h : BO w O T cs pb po vs ds nv dv) (hb : Below w.heap.size w w') : BO w' O T cs pb po vs ds nv dv :=
 h.chg (Chg.of_below hb (fun _ => False)) (fun _ _ h => h)
theorem BO.set {w : World} {O : Nat → Prop} {T : TypeId} {cs : List Value} {pb po : Nat} {vs : List NV} {ds : List DT} {nv dv : Value} (h : BO w O T cs pb po vs ds nv dv) (i : Nat) (u : Value) (h0 : i ≠ po) (h1 : i ≠ po + 1) : BO (w.setCell ⟨pb, i, none⟩ u) O T (cs.set i u) pb po vs ds nv dv := by
 have hc : Chg w (w.setCell ⟨pb, i, none⟩ u) (fun k => k = pb) := (Chg.refl w (fun k => k = pb)).set pb i rfl u
 refine ⟨h.bo.put i u, h.ht, by rw [List.getElem?_set_ne h0]; exact h.c0, by rw [List.getElem?_set_ne h1]; exact h.c1, owns_chg h.rn hc ?_, owns_chg h.rd hc ?_, fun v hv => (h.each v hv).chg hc ?_ (fun _ hg => hg), h.og, h.on, h.od, fun b hb => Nat.lt_of_lt_of_le (h.lt b hb) hc.size⟩
 ·intro k hk e
  rw [e] at hk
  exact absurd (own_type h.rn hk h.bo).symm h.ht.1
 ·intro k hk e
  rw [e] at hk
  exact absurd (own_type h.rd hk h.bo).symm h.ht.2.1
 ·intro U g cs' hU hB _ e
  rw [e] at hB
  exact h.ht.2.2 (blk_type hB h.bo ▸ hU)
def grownO (O : Nat → Prop) (w w' : World) : Nat → Prop := fun k => O k ∨ (w.heap.size ≤ k ∧ k < w'.heap.size)
theorem inner_no {T : TypeId} (hT : Inner T) : T ≠ 54 ∧ T ≠ 43 := by
 rcases hT with rfl | rfl | rfl | rfl <;> decide
theorem BO.name {w w1 w' : World} {O : Nat → Prop} {T : TypeId} {cs : List Value} {pb po : Nat} {vs : List NV} {ds : List DT} {nv dv dv' : Value} {d : DT} (h : BO w O T cs pb po vs ds nv dv) (hb : Below w.heap.size w w1) (hg : w1.grownBy w' dv.ownBlock) (hr : w'.ownsRow 0 43 2 dv' (ds.length + 1) (flatD ds ++ d.cells)) (hat : dv'.ownBlock = dv.ownBlock ∨ ∃ k, dv'.ownBlock = some k ∧ w.heap.size ≤ k) :
  BO (w'.setCell ⟨pb, po + 1, none⟩ dv') (grownO O w (w'.setCell ⟨pb, po + 1, none⟩ dv')) T (cs.set (po + 1) dv') pb po vs (ds ++ [d]) nv dv' := by
 have h1 := h.keep hb
 have hc : Chg w1 (w'.setCell ⟨pb, po + 1, none⟩ dv') (fun k => k = pb ∨ dv.ownBlock = some k) := ((Chg.of_grown hg).more (fun k _ hk => .inr hk)).set pb (po + 1) (.inl rfl) _
 have hc0 : Chg w1 w' (fun k => dv.ownBlock = some k) := Chg.of_grown hg
 have hb1 : Blk w' pb T cs := h1.bo.chg hc0 (fun e => absurd (own_type h1.rd e h1.bo).symm h.ht.2.1)
 have hsz : (w'.setCell ⟨pb, po + 1, none⟩ dv').heap.size = w'.heap.size := by simp [World.setCell]
 refine ⟨hb1.put (po + 1) dv', h.ht, by rw [List.getElem?_set_ne (by omega)]; exact h.c0, ?_, ?_, ?_, fun v hv => (h1.each v hv).chg hc ?_ (fun _ hg => .inl hg), .inl h.og, fun b hb => .inl (h.on b hb), fun b hb => ?_, fun b hb => ?_⟩
 ·have hl := (List.getElem?_eq_some_iff.1 h.c1).1
  rw [List.getElem?_set_self hl]
 ·refine owns_chg h1.rn hc (fun k hk => ?_)
  rintro (e | e)
  ·rw [e] at hk
   exact absurd (own_type h1.rn hk h1.bo).symm h.ht.1
  ·exact absurd (own_two h1.rn h1.rd hk e) (by decide)
 ·have e1 : flatD (ds ++ [d]) = flatD ds ++ d.cells := by simp [flatD]
  rw [e1, List.length_append]
  refine owns_chg hr ((Chg.refl w' (fun k => k = pb)).set pb (po + 1) rfl _) (fun k hk => ?_)
  intro e
  rw [e] at hk
  exact absurd (own_type hr hk hb1).symm h.ht.2.1
 ·intro U g cs' hU hB _
  rintro (e | e)
  ·rw [e] at hB
   exact h.ht.2.2 (blk_type hB h1.bo ▸ hU)
  ·exact (inner_no hU).2 (own_type h1.rd e hB).symm
 ·rcases hat with e | ⟨k, e, hk⟩
  ·rw [e] at hb
   exact .inl (h.od b hb)
  ·rw [e] at hb
   injection hb with hb
   subst hb
   exact .inr ⟨hk, by rw [hsz]; exact (owns_block hr _ e).2⟩
 ·rcases hb with hb | hb
  ·rw [hsz]
   exact Nat.lt_of_lt_of_le (h1.lt b hb) hg.size
  ·exact hb.2
theorem BO.add {w w1 w' : World} {O : Nat → Prop} {T : TypeId} {cs : List Value} {pb po : Nat} {vs : List NV} {ds : List DT} {nv dv nv' : Value} {y : NV} (h : BO w O T cs pb po vs ds nv dv) (hb : Below w.heap.size w w1) (hy : NodeOwn w1 w.heap.size y) (hg : w1.grownBy w' nv.ownBlock) (hr : w'.ownsRow 0 54 18 nv' (vs.length + 1) (flatN vs ++ y.cells)) (hat : nv'.ownBlock = nv.ownBlock ∨ ∃ k, nv'.ownBlock = some k ∧ w.heap.size ≤ k) :
  BO (w'.setCell ⟨pb, po, none⟩ nv') (grownO O w (w'.setCell ⟨pb, po, none⟩ nv')) T (cs.set po nv') pb po (vs ++ [y]) ds nv' dv := by
 have h1 := h.keep hb
 have hc : Chg w1 (w'.setCell ⟨pb, po, none⟩ nv') (fun k => k = pb ∨ nv.ownBlock = some k) := ((Chg.of_grown hg).more (fun k _ hk => .inr hk)).set pb po (.inl rfl) _
 have hc0 : Chg w1 w' (fun k => nv.ownBlock = some k) := Chg.of_grown hg
 have hb1 : Blk w' pb T cs := h1.bo.chg hc0 (fun e => absurd (own_type h1.rn e h1.bo).symm h.ht.1)
 have hsz : (w'.setCell ⟨pb, po, none⟩ nv').heap.size = w'.heap.size := by simp [World.setCell]
 have hin : ∀ U g cs', Inner U → Blk w1 g U cs' → ¬ (g = pb ∨ nv.ownBlock = some g) := by
  intro U g cs' hU hB
  rintro (e | e)
  ·rw [e] at hB
   exact h.ht.2.2 (blk_type hB h1.bo ▸ hU)
  ·exact (inner_no hU).1 (own_type h1.rn e hB).symm
 refine ⟨hb1.put po nv', h.ht, ?_, by rw [List.getElem?_set_ne (by omega)]; exact h.c1, ?_, ?_, fun v hv => ?_, .inl h.og, fun b hb => ?_, fun b hb => .inl (h.od b hb), fun b hb => ?_⟩
 ·have hl := (List.getElem?_eq_some_iff.1 h.c0).1
  rw [List.getElem?_set_self hl]
 ·have e1 : flatN (vs ++ [y]) = flatN vs ++ y.cells := by simp [flatN]
  rw [e1, List.length_append]
  refine owns_chg hr ((Chg.refl w' (fun k => k = pb)).set pb po rfl _) (fun k hk => ?_)
  intro e
  rw [e] at hk
  exact absurd (own_type hr hk hb1).symm h.ht.1
 ·refine owns_chg h1.rd hc (fun k hk => ?_)
  rintro (e | e)
  ·rw [e] at hk
   exact absurd (own_type h1.rd hk h1.bo).symm h.ht.2.1
  ·exact absurd (own_two h1.rd h1.rn hk e) (by decide)
 ·rcases List.mem_append.1 hv with hv | hv
  ·exact (h1.each v hv).chg hc (fun U g cs' hU hB _ => hin U g cs' hU hB) (fun _ hg => .inl hg)
  ·obtain rfl := List.mem_singleton.1 hv
   exact (NodeO.of (O := grownO O w w1) hy (fun g h1 h2 => .inr ⟨h1, h2⟩)).chg hc (fun U g cs' hU hB _ => hin U g cs' hU hB) (fun g hg => by
    rcases hg with hg | ⟨h1, h2⟩
    ·exact .inl hg
    ·exact .inr ⟨h1, by rw [hsz]; exact Nat.lt_of_lt_of_le h2 hg.size⟩)
 ·rcases hat with e | ⟨k, e, hk⟩
  ·rw [e] at hb
   exact .inl (h.on b hb)
  ·rw [e] at hb
   injection hb with hb
   subst hb
   exact .inr ⟨hk, by rw [hsz]; exact (owns_block hr _ e).2⟩
 ·rcases hb with hb | hb
  ·rw [hsz]
   exact Nat.lt_of_lt_of_le (h1.lt b hb) hg.size
  ·exact hb.2
theorem BO.new (w : World) (O : Nat → Prop) (T : TypeId) (cs : List Value) (pb po : Nat) (hT : BT T) (h : Blk w pb T cs) (h0 : cs[po]? = some (.slice none 0 0)) (h1 : cs[po + 1]? = some (.slice none 0 0)) (hO : O pb) (hl : ∀ b, O b → b < w.heap.size) : BO w O T cs pb po [] [] (.slice none 0 0) (.slice none 0 0) :=
 ⟨h, hT, h0, h1, World.ownsRow_nil w _ _ _, World.ownsRow_nil w _ _ _, fun v hv => by simp at hv, hO, fun b hb => (by cases hb), fun b hb => (by cases hb), hl⟩
end Go.Proofs.YtfcccfplmdjndaaGreat
