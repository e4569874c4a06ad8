/- spec: a Builder's Add. -/
import Derived.Test.YthjfhenldkihkaaSpWb
namespace Go.Proofs.Ythjfhenldkihkaa
set_option linter.unusedSimpArgs false
set_option linter.unusedVariables false
open Go.RowKit

set_option maxRecDepth 100000 in
set_option maxHeartbeats 1000000 in
theorem Add_no {w : World} {pb base : Nat} {vs : List NV} {ds : List DT} {nv dv : Value} (h : BOk w pb base vs ds nv dv) (x : NV) (hd : vs.length = 2048) :
    Calls Try.prog 12 #[.pointer (some ⟨pb, 0, none⟩), x.val] w fun e w' => e = .returned (.tuple #[.int .i64 0, .int .i64 2]) ∧ Below w.heap.size w w' := by
  obtain ⟨A, cc, rfl⟩ := owns_shape h.rn
  have x1 := h.at0
  rw [hd] at x1
  have h0 := h.bo.lt
  clear h hd
  have hfz : w.cell? ⟨pb, 0, none⟩ = some (.slice A 2048 cc) := x1
  have hlt := h0
  rw [NV.val_eq]
  have x2 := (World.cell?_of_block (w := w) (a := ⟨pb, 0, none⟩) (((Below.refl w.heap.size w).alloc (Nat.le_refl _) (.cells x.cells.toArray 49)).block pb hlt)).trans x1
  have HB := hid ((Below.refl w.heap.size w).alloc (Nat.le_refl _) (.cells x.cells.toArray 49))
  generalize x.cells.toArray = C at *
  clear x1 hfz hlt h0
  go_enter Try.func12, Try.ntmps12
  go_wp2
  go_ret2
  exact ⟨rfl, HB.out⟩
/-- A type more. -/
theorem BOk.add {w w1 w' : World} {pb base : Nat} {vs : List NV} {ds : List DT} {nv dv nv' : Value} {y : NV} (h : BOk w pb base vs ds nv dv) (hb : Below w.heap.size w w1) (hy : NodeOwn w1 base y) (hg : w1.grownBy w' nv.ownBlock) (hr : w'.ownsRow base 49 18 nv' (vs.length + 1) (flatN vs ++ y.cells)) :
    BOk (w'.setCell ⟨pb, 0, none⟩ nv') pb base (vs ++ [y]) ds nv' dv := by
  have h1 := h.keep hb
  have hc : Chg w1 (w'.setCell ⟨pb, 0, none⟩ nv') (fun k => k = pb ∨ nv.ownBlock = some k) := ((Chg.of_grown hg).more (fun k _ hk => .inr hk)).set pb 0 (.inl rfl) _
  have hc0 : Chg w1 w' (fun k => nv.ownBlock = some k) := Chg.of_grown hg
  have hb1 : Blk w' pb 39 [nv, dv] := h1.bo.chg hc0 (fun e => absurd (own_type h1.rn e h1.bo) (by decide))
  have hin : ∀ T g cs, (T = 3 ∨ T = 4 ∨ T = 51 ∨ T = 81) → Blk w1 g T cs → ¬ (g = pb ∨ nv.ownBlock = some g) := by
    intro T g cs hT hB
    have hne := inner_ne hT
    rintro (e | e)
    · rw [e] at hB; exact hne.1 (blk_type hB h1.bo)
    · exact hne.2.1 (own_type h1.rn e hB).symm
  refine ⟨?_, ?_, ?_, fun v hv => ?_⟩
  · have := hb1.put 0 nv'
    simpa using this
  · have e1 : flatN (vs ++ [y]) = flatN vs ++ y.cells := by simp [flatN]
    rw [e1, List.length_append]
    refine owns_chg hr ((Chg.refl w' (fun k => k = pb)).set pb 0 rfl _) (fun k hk => ?_)
    intro e
    rw [e] at hk
    exact absurd (own_type hr hk hb1) (by decide)
  · refine owns_chg h1.rd hc (fun k hk => ?_)
    rintro (e | e)
    · rw [e] at hk
      exact absurd (own_type h1.rd hk h1.bo) (by decide)
    · exact absurd (own_two h1.rd h1.rn hk e) (by decide)
  · rcases List.mem_append.1 hv with hv | hv
    · exact (h1.each v hv).chg hc hin
    · obtain rfl := List.mem_singleton.1 hv
      exact hy.chg hc hin
set_option maxRecDepth 100000 in
set_option maxHeartbeats 1000000 in
theorem Add_yes {P : Nat → Prop} {w : World} {pb base : Nat} {vs : List NV} {ds : List DT} {nv dv : Value} (h : BOk w pb base vs ds nv dv) (hbase : base ≤ w.heap.size) (x : NV) (hx : NodeOk w P x) (hf : Fits x) (hd : vs.length < 2048) :
    Calls Try.prog 12 #[.pointer (some ⟨pb, 0, none⟩), x.val] w fun e w' => e = .returned (.tuple #[.int .i64 (vs.length : Int), .int .i64 0]) ∧ ∃ (y : NV) (nv' : Value), y.t = x.t ∧ BOk w' pb base (vs ++ [y]) ds nv' dv ∧ Chg w w' (fun k => k = pb ∨ nv.ownBlock = some k) := by
  obtain ⟨A, cc, rfl⟩ := owns_shape h.rn
  have hal := (Below.refl w.heap.size w).alloc (Nat.le_refl _) (.cells x.cells.toArray 49)
  have hsz : (w.alloc (.cells x.cells.toArray 49)).heap.size = w.heap.size + 1 := by simp
  have hN := heap_alloc_new w (.cells x.cells.toArray 49)
  have h1 := h.keep hal
  have hOwn := Own_any P x (w.alloc (.cells x.cells.toArray 49)).drew (NodeOk.keep hx (below_draw hal)) hf
  have x1 := h1.at0
  have HO := hid h
  have HA := hid (And.intro hal hsz)
  have HN := hid hN
  have HW := hid hOwn
  have hlt : vs.length < 2048 := hd
  clear hOwn hN hsz hal h1 hx hf
  rw [NV.val_eq] at *
  generalize hC : x.cells.toArray = C at *
  generalize hn : vs.length = n at *
  obtain ⟨R, hR⟩ : ∃ R : Ending → World → Prop, R = fun e w' => e = .returned (.tuple #[.int .i64 (n : Int), .int .i64 0]) ∧ ∃ (y : NV) (nv' : Value), y.t = x.t ∧ BOk w' pb base (vs ++ [y]) ds nv' dv ∧ Chg w w' (fun k => k = pb ∨ (Value.slice A n cc).ownBlock = some k) := ⟨_, rfl⟩
  rw [← hR]
  have HR := hid hR
  clear hR h hd
  go_enter Try.func12, Try.ntmps12
  go_upto_region 4 with (fail)
  refine add_reg (pb := pb) (pn := w.heap.size) (n := n) (cc := cc) (A := A) (x := x) (base := base) (xs := flatN vs)
    (R7 := fun y w' => y.t = x.t ∧ Below (w.heap.size + 1) (w.alloc (.cells C 49)) w' ∧ NodeOwn w' base y)
    (R9 := fun v' w' => ∃ y w1, y.t = x.t ∧ Below (w.heap.size + 1) (w.alloc (.cells C 49)) w1 ∧ NodeOwn w1 base y ∧ w'.ownsRow base 49 18 v' (n + 1) (flatN vs ++ y.cells) ∧ w1.grownBy w' (Value.slice A n cc).ownBlock)
    (R13 := fun w' => ∃ (y : NV) (nv' : Value), y.t = x.t ∧ BOk w' pb base (vs ++ [y]) ds nv' dv ∧ Chg w w' (fun k => k = pb ∨ (Value.slice A n cc).ownBlock = some k))
    rfl rfl (by simp) (by unfold Blk; rw [hC]; exact HN.out) x1 (by omega) ?_ ?_ ?_ ?_ ?_
  · rw [hC]
    refine HW.out.mono ?_
    rintro e w1 ⟨y, hy, rfl, hb, ho⟩
    have hb' : Below (w.heap.size + 1) (w.alloc (.cells C 49)) w1 := ⟨hb.os, hb.tape, hb.output, hb.size, fun k hk => hb.block k (by show k < (w.alloc (.cells C 49)).heap.size; rw [HA.out.2]; exact hk)⟩
    exact ⟨_, rfl, y, NV.val_eq y, hy, hb', ho.base (by show base ≤ (w.alloc (.cells C 49)).heap.size; rw [HA.out.2]; omega)⟩
  · rintro y w1 ⟨hy, hb, ho⟩
    have hB : Below w.heap.size w w1 := HA.out.1.trans (hb.mono (by omega))
    have k := HO.out.keep hB
    exact ⟨k.at0, Blk.free k.bo 0, by have := k.rn; rw [hn] at this; exact this, Nat.le_trans hbase hB.size, k.bo.lt⟩
  · rintro y w1 ⟨hy, hb, ho⟩ v' w2 hown hgr _
    have hs1 : w.heap.size + 1 ≤ w1.heap.size := by have := hb.size; rw [HA.out.2] at this; exact this
    exact ⟨y, _, hy, hb.alloc hs1 _, ho.keep ((Below.refl _ _).alloc (Nat.le_refl _) _), hown, hgr⟩
  · rintro v w2 ⟨y, w1, hy, hb, ho, hown, hgr⟩
    have hB : Below w.heap.size w w1 := HA.out.1.trans (hb.mono (by omega))
    have k := HO.out.keep hB
    have hb2 : Blk w2 pb 39 [.slice A n cc, dv] := k.bo.chg (Chg.of_grown hgr) (fun e => absurd (own_type k.rn e k.bo) (by decide))
    obtain ⟨A', c', rfl⟩ := owns_shape hown
    refine ⟨⟨A', c', rfl⟩, ⟨_, Blk.at hb2 0⟩, Blk.free hb2 0, y, _, hy, HO.out.add hB ho hgr (by rw [hn]; exact hown), ?_⟩
    have h1 : Chg w w1 (fun k => k = pb ∨ (Value.slice A n cc).ownBlock = some k) := Chg.of_below hB _
    have h2 : Chg w1 w2 (fun k => k = pb ∨ (Value.slice A n cc).ownBlock = some k) := (Chg.of_grown hgr).more (fun k _ hk => .inr hk)
    exact (h1.trans h2).set pb 0 (.inl rfl) _
  · intro f w2 h13
    simp only [addUs, List.foldl_cons, List.foldl_nil, List.setIfInBounds_toArray, List.set_cons_zero, List.set_cons_succ]
    have H13 := hid h13
    clear h13
    go_wp2_with fail


    rw [HR.out]
    exact ⟨rfl, H13.out⟩
end Go.Proofs.Ythjfhenldkihkaa
