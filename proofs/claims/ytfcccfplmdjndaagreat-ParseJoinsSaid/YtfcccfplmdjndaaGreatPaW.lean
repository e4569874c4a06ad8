/- parse: a Builder's Add and Name, wherever it lies. -/
import Derived.Test.YtfcccfplmdjndaaGreatPaWb
namespace Go.Proofs.YtfcccfplmdjndaaGreat
set_option linter.unusedSimpArgs false
set_option linter.unusedVariables false
open Go.RowKit

set_option maxRecDepth 100000 in
set_option maxHeartbeats 1000000 in
theorem Add_no_ {w : World} {O : Nat → Prop} {T : TypeId} {cs : List Value} {pb po : Nat} {vs : List NV} {ds : List DT} {nv dv : Value} (h : BO w O T cs pb po vs ds nv dv) (x : NV) (hd : vs.length = 2048) :
  Calls Tryz.prog 15 #[.pointer (some ⟨pb, po, none⟩), x.val] w fun e w' => e = .returned (.tuple #[.int .i64 0, .int .i64 2]) ∧ Below w.heap.size w w' := by
 obtain ⟨A, cc, rfl⟩ := owns_shape h.rn
 have x1 := h.at0
 rw [hd] at x1
 have h0 := h.bo.lt
 clear h hd
 have hfz : w.cell? ⟨pb, po, none⟩ = some (.slice A 2048 cc) := x1
 have hlt := h0
 rw [NV.val_eq]
 have x2 := (World.cell?_of_block (w := w) (a := ⟨pb, po, none⟩) (((Below.refl w.heap.size w).alloc (Nat.le_refl _) (.cells x.cells.toArray 54)).block pb hlt)).trans x1
 have HB := hid ((Below.refl w.heap.size w).alloc (Nat.le_refl _) (.cells x.cells.toArray 54))
 generalize x.cells.toArray = C at *
 clear x1 hfz hlt h0
 go_enter Tryz.func15, Tryz.ntmps15
 go_wp2
 go_ret2
 exact ⟨rfl, HB.out⟩
set_option maxRecDepth 100000 in
set_option maxHeartbeats 1000000 in
theorem Add_yes_ {P O : Nat → Prop} {w : World} {T : TypeId} {cs : List Value} {pb po : Nat} {vs : List NV} {ds : List DT} {nv dv : Value} (h : BO w O T cs pb po vs ds nv dv) (x : NV) (hx : NodeOk w P x) (hf : Fits x) (hd : vs.length < 2048) :
  Calls Tryz.prog 15 #[.pointer (some ⟨pb, po, none⟩), x.val] w fun e w' => e = .returned (.tuple #[.int .i64 (vs.length : Int), .int .i64 0]) ∧ ∃ (y : NV) (nv' : Value), y.t = x.t ∧ BO w' (grownO O w w') T (cs.set po nv') pb po (vs ++ [y]) ds nv' dv ∧ Chg w w' (fun k => k = pb ∨ nv.ownBlock = some k) := by
 obtain ⟨A, cc, rfl⟩ := owns_shape h.rn
 have hal := (Below.refl w.heap.size w).alloc (Nat.le_refl _) (.cells x.cells.toArray 54)
 have hsz : (w.alloc (.cells x.cells.toArray 54)).heap.size = w.heap.size + 1 := by simp
 have hN := heap_alloc_new w (.cells x.cells.toArray 54)
 have h1 := h.keep hal
 have hOwn := Own_any P x (w.alloc (.cells x.cells.toArray 54)).drew (NodeOk.keep hx (below_draw hal)) hf
 have x1 := h1.at0
 have HO := hid h
 have HA := hid (And.intro hal hsz)
 have HN := hid hN
 have HW := hid hOwn
 have hlt : vs.length < 2048 := hd
 clear hOwn hN hsz hal h1 hx hf
 rw [NV.val_eq] at *
 generalize hC : x.cells.toArray = C at *
 generalize hn : vs.length = n at *
 obtain ⟨R, hR⟩ : ∃ R : Ending → World → Prop, R = fun e w' => e = .returned (.tuple #[.int .i64 (n : Int), .int .i64 0]) ∧ ∃ (y : NV) (nv' : Value), y.t = x.t ∧ BO w' (grownO O w w') T (cs.set po nv') pb po (vs ++ [y]) ds nv' dv ∧ Chg w w' (fun k => k = pb ∨ (Value.slice A n cc).ownBlock = some k) := ⟨_, rfl⟩
 rw [← hR]
 have HR := hid hR
 clear hR h hd
 go_enter Tryz.func15, Tryz.ntmps15
 go_upto_region 4 with (fail)
 refine aop_reg (pb := pb) (po := po) (pn := w.heap.size) (n := n) (cc := cc) (A := A) (x := x) (base := 0) (xs := flatN vs)
  (R7 := fun y w' => y.t = x.t ∧ Below (w.heap.size + 1) (w.alloc (.cells C 54)) w' ∧ NodeOwn w' w.heap.size y)
  (R9 := fun v' w' => ∃ y w1, y.t = x.t ∧ Below (w.heap.size + 1) (w.alloc (.cells C 54)) w1 ∧ NodeOwn w1 w.heap.size y ∧ w'.ownsRow 0 54 18 v' (n + 1) (flatN vs ++ y.cells) ∧ w1.grownBy w' (Value.slice A n cc).ownBlock ∧ (v'.ownBlock = (Value.slice A n cc).ownBlock ∨ ∃ k, v'.ownBlock = some k ∧ w.heap.size ≤ k))
  (R13 := fun w' => ∃ (y : NV) (nv' : Value), y.t = x.t ∧ BO w' (grownO O w w') T (cs.set po nv') pb po (vs ++ [y]) ds nv' dv ∧ Chg w w' (fun k => k = pb ∨ (Value.slice A n cc).ownBlock = some k))
  rfl rfl (by simp) (by unfold Blk; rw [hC]; exact HN.out) x1 (by omega) ?_ ?_ ?_ ?_ ?_
 ·rw [hC]
  refine HW.out.mono ?_
  rintro e w1 ⟨y, hy, rfl, hb, ho⟩
  have hb' : Below (w.heap.size + 1) (w.alloc (.cells C 54)) w1 := ⟨hb.os, hb.tape, hb.output, hb.size, fun k hk => hb.block k (by show k < (w.alloc (.cells C 54)).heap.size; rw [HA.out.2]; exact hk)⟩
  exact ⟨_, rfl, y, NV.val_eq y, hy, hb', ho.base (by show w.heap.size ≤ (w.alloc (.cells C 54)).heap.size; rw [HA.out.2]; omega)⟩
 ·rintro y w1 ⟨hy, hb, ho⟩
  have hB : Below w.heap.size w w1 := HA.out.1.trans (hb.mono (by omega))
  have k := HO.out.keep hB
  exact ⟨k.at0, Blk.free k.bo po, by have := k.rn; rw [hn] at this; exact this, Nat.zero_le _, k.bo.lt⟩
 ·rintro y w1 ⟨hy, hb, ho⟩ v' w2 hown hgr hat
  have hs1 : w.heap.size + 1 ≤ w1.heap.size := by have := hb.size; rw [HA.out.2] at this; exact this
  exact ⟨y, _, hy, hb.alloc hs1 _, ho.keep ((Below.refl _ _).alloc (Nat.le_refl _) _), hown, hgr, hat.imp_right (fun e => ⟨_, e, by omega⟩)⟩
 ·rintro v w2 ⟨y, w1, hy, hb, ho, hown, hgr, hat⟩
  have hB : Below w.heap.size w w1 := HA.out.1.trans (hb.mono (by omega))
  have k := HO.out.keep hB
  have hb2 : Blk w2 pb T cs := k.bo.chg (Chg.of_grown hgr) (fun e => absurd (own_type k.rn e k.bo).symm k.ht.1)
  obtain ⟨A', c', rfl⟩ := owns_shape hown
  refine ⟨⟨A', c', rfl⟩, ⟨_, (Blk.at hb2 po).trans HO.out.c0⟩, Blk.free hb2 po, y, _, hy, HO.out.add hB ho hgr (by rw [hn]; exact hown) hat, ?_⟩
  have h1 : Chg w w1 (fun k => k = pb ∨ (Value.slice A n cc).ownBlock = some k) := Chg.of_below hB _
  have h2 : Chg w1 w2 (fun k => k = pb ∨ (Value.slice A n cc).ownBlock = some k) := (Chg.of_grown hgr).more (fun k _ hk => .inr hk)
  exact (h1.trans h2).set pb po (.inl rfl) _
 ·intro f w2 h13
  simp only [aopUs, List.foldl_cons, List.foldl_nil, List.setIfInBounds_toArray, List.set_cons_zero, List.set_cons_succ]
  have H13 := hid h13
  clear h13
  go_wp2_with fail


  rw [HR.out]
  exact ⟨rfl, H13.out⟩
set_option maxRecDepth 100000 in
set_option maxHeartbeats 1000000 in
theorem Name_no_ {w : World} {O : Nat → Prop} {T : TypeId} {cs : List Value} {pb po : Nat} {vs : List NV} {ds : List DT} {nv dv : Value} (h : BO w O T cs pb po vs ds nv dv) (nm : ByteArray) (ty : Int) (hd : ds.length = 64) :
  Calls Tryz.prog 16 #[.pointer (some ⟨pb, po, none⟩), .string nm, .int .i64 ty] w fun e w' => e = .returned (.int .i64 2) ∧ Below w.heap.size w w' := by
 obtain ⟨A, cc, rfl⟩ := owns_shape h.rd
 have x1 := h.at1
 rw [hd] at x1
 clear h hd
 go_enter Tryz.func16, Tryz.ntmps16
 go_wp2
 go_ret
 exact ⟨rfl, Below.refl _ _⟩
set_option maxRecDepth 100000 in
set_option maxHeartbeats 1000000 in
theorem Name_yes_ {w : World} {O : Nat → Prop} {T : TypeId} {cs : List Value} {pb po : Nat} {vs : List NV} {ds : List DT} {nv dv : Value} (h : BO w O T cs pb po vs ds nv dv) (nm : ByteArray) (ty : Int) (hd : ds.length < 64) :
  Calls Tryz.prog 16 #[.pointer (some ⟨pb, po, none⟩), .string nm, .int .i64 ty] w fun e w' => e = .returned (.int .i64 0) ∧ ∃ dv' : Value, BO w' (grownO O w w') T (cs.set (po + 1) dv') pb po vs (ds ++ [⟨nm, ty⟩]) nv dv' ∧ Chg w w' (fun k => k = pb ∨ dv.ownBlock = some k) := by
 obtain ⟨A, cc, rfl⟩ := owns_shape h.rd
 have x1 := h.at1
 have HO := hid h
 obtain ⟨i0, hi0, hz0, hz1, hz2⟩ := info_parts info_def
 have hb1 := (Below.refl w.heap.size w).alloc (Nat.le_refl _) (.cells #[.string nm, .int .i64 ty] 43)
 have hsz : (w.alloc (.cells #[.string nm, .int .i64 ty] 43)).heap.size = w.heap.size + 1 := by simp
 have HR := hid (h.keep hb1).rd
 have HX := hid (And.intro hb1 hsz)
 have HCn := hid (fun j (v : Value) (hj : ([.string nm, .int .i64 ty] : List Value)[j]? = some v) => (show (w.alloc (.cells #[.string nm, .int .i64 ty] 43)).cell? ((⟨w.heap.size, 0, none⟩ : Addr).add j) = some v by rw [addr_add, Nat.zero_add, Blk.at (heap_alloc_new w _) j]; exact hj))
 have HN := hid (fun (v' : Value) (w' : World) hg hr hat => BO.name (w' := w') (dv' := v') (d := ⟨nm, ty⟩) h hb1 hg hr hat)
 have HG := hid (And.intro h.og h.od)
 have HC1 := hid h.c1
 have HBo := hid (fun (w' : World) (hg : World.grownBy _ w' (Value.slice A ds.length cc).ownBlock) => (h.keep hb1).bo.chg (Chg.of_grown hg) (fun e => absurd (own_type (h.keep hb1).rd e (h.keep hb1).bo).symm h.ht.2.1))
 have hbs : 0 ≤ (w.alloc (.cells #[.string nm, .int .i64 ty] 43)).heap.size := by omega
 have hlt : ds.length < 64 := hd
 have hone : ([.string nm, .int .i64 ty] : List Value).toArray.all (·.oneCell') = true := by simp [Value.oneCell']
 clear h hd hb1 hsz HO
 generalize ds.length = n at *
 go_enter Tryz.func16, Tryz.ntmps16
 go_wp2_with (refine wpList_append_own_at _ rfl _ _ 30 rfl 0 43 i0 (.agg #[.string ⟨#[]⟩, .int .i64 0]) 2 24 Tryz.underlying30 hi0 hz0 hz1 hz2 rfl (by decide) _ n (flatD ds) rfl HR.out ⟨w.heap.size, 0, none⟩ 1 1 [.string nm, .int .i64 ty] rfl rfl HCn.out (by simp [Value.oneCell']) (by unfold maxLen; omega) (by omega) hbs ?_; intro u7 w7 hown7 hgrow7 _ hat7; obtain ⟨A7, c7, rfl⟩ := owns_shape hown7; have H7 := hid (And.intro (HN.out _ w7 hgrow7 hown7 (hat7.imp_right (fun e => ⟨_, e, by have := HX.out.2; omega⟩))) hgrow7); have hb7 := HBo.out w7 hgrow7; have f7 := Blk.free hb7 (po + 1); have z7 := (Blk.at hb7 (po + 1)).trans HC1.out; clear hown7 hgrow7 hb7 hat7)
 go_ret
 obtain ⟨hN, hg⟩ := H7.out
 obtain ⟨hb1, hsz⟩ := HX.out
 refine ⟨rfl, _, hN, ?_⟩
 have h1 : Chg w _ (fun k => k = pb ∨ (Value.slice A n cc).ownBlock = some k) := Chg.of_below hb1 _
 have h2 : Chg _ w7 (fun k => k = pb ∨ (Value.slice A n cc).ownBlock = some k) := (Chg.of_grown hg).more (fun k _ hk => .inr hk)
 exact (h1.trans h2).set pb (po + 1) (.inl rfl) _
end Go.Proofs.YtfcccfplmdjndaaGreat
