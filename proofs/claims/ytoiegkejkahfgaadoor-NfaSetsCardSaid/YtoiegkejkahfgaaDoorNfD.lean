/- nfa: Len; one state more; how many states an expression adds. -/
import Derived.Test.YtoiegkejkahfgaaDoorNfB
import Derived.Test.YtoiegkejkahfgaaDoorRck
import Derived.Test.YtoiegkejkahfgaaDoorInv
import Derived.Deep.AppendLies
namespace Go.Proofs.YtoiegkejkahfgaaDoor
set_option linter.unusedVariables false
set_option linter.unusedSimpArgs false
open Go.RowKit

theorem info_row : (Tryd.prog.info? 61).map (fun i => (i.zero, i.size, i.bytes)) = some (some (.slice none 0 0), 1, 24) := by kernel_rfl
theorem info_edge : (Tryd.prog.info? 63).map (fun i => (i.zero, i.size, i.bytes)) = some (some (.agg #[.int .i64 0, .int .u64 0, .int .u64 0, .int .u64 0, .int .u64 0, .bool false]), 6, 48) := by kernel_rfl
set_option maxRecDepth 100000 in
theorem len_any (A : Option Addr) (n c : Nat) (en : Int) (w : World) : Calls Tryd.prog 16 #[.agg #[.slice A n c, .int .i64 en]] w fun e w' => e = .returned (.int .i64 (n : Int)) ∧ Below w.heap.size w w' := by
  have HA := hid (show Below w.heap.size w (w.alloc (.cells #[.slice A n c, .int .i64 en] 33)) from (Below.refl _ _).alloc (Nat.le_refl _) _)
  go_enter Tryd.func16, Tryd.ntmps16
  go_wp2
  go_ret
  exact ⟨rfl, HA.out⟩
variable {w w' w2 : World} {O : Nat → Prop} {v : Value} {E : EG} {vs : List Value} {g : Nat}
theorem mk_cells {A : Option Addr} {n c : Nat} {en : Int} (h : Blk w g 57 [.slice A n c, .int .i64 en]) : w.cell? ⟨g, 0, none⟩ = some (.slice A n c) ∧ w.cell? ⟨g, 1, none⟩ = some (.int .i64 en) ∧ w.frozen? ⟨g, 0, none⟩ = false ∧ w.frozen? ⟨g, 1, none⟩ = false := ⟨h.at 0, h.at 1, h.free 0, h.free 1⟩
theorem new_row (w : World) : ∀ j u, ([Value.slice none 0 0] : List Value)[j]? = some u → (w.alloc (.cells #[.slice none 0 0] 61)).cell? ((⟨w.heap.size, 0, none⟩ : Addr).add j) = some u := by
  intro j u hj
  rw [addr_add, Nat.zero_add]
  exact (Blk.at (Blk.fresh w 61 [.slice none 0 0]) j).trans hj
set_option maxRecDepth 100000 in
set_option maxHeartbeats 4000000 in
theorem state_any (h : MkR w O g E) (hE : E.length ≤ 5000) (hO : ∀ b, O b → b < w.heap.size) : Calls Tryd.prog 20 #[.pointer (some ⟨g, 0, none⟩)] w fun e w' => e = .returned (.int .i64 (E.length : Int)) ∧ StM w O g (newE E) w' := by
  obtain ⟨A, c, vs, hb, hg, hv⟩ := h
  obtain ⟨k0, k1, k2, k3⟩ := mk_cells hb
  obtain ⟨i0, hi0, hz0, hz1, hz2⟩ := info_parts info_row
  have hal : Below w.heap.size w (w.alloc (.cells #[.slice none 0 0] 61)) := (Below.refl _ _).alloc (Nat.le_refl _) _
  have HV1 := hid (hv.chg (Chg.of_below hal (fun _ => False)) (fun _ _ h => h))
  have HB1 := hid (hb.keep hal)
  have HAl := hid hal
  have HN := hid (new_row w)
  have HOwn := hid HV1.out.row
  have HLn := hid (fun (A : Option Addr) (n c : Nat) (en : Int) (W : World) => len_any A n c en W)
  have HO := hid hO
  have HG := hid hg
  have HB := hid hb
  have HV := hid hv
  clear hal hv hb hO hg
  go_enter Tryd.func20, Tryd.ntmps20
  go_upto_region 2 with (first
    | (refine wpList_append_own_at _ rfl _ _ 31 rfl 0 61 i0 (.slice none 0 0) 1 24 Tryd.underlying31 hi0 hz0 hz1 hz2 rfl (by decide) _ _ _ rfl HOwn.out ⟨w.heap.size, 0, none⟩ 1 1 [.slice none 0 0] rfl rfl HN.out (by intro u hu; simp at hu; subst hu; rfl) (by unfold maxLen; omega) (by omega) (Nat.zero_le _) ?_; intro u7 w7 hown7 hgrow7 _ hblk7; obtain ⟨A7, c7, rfl⟩ := own_shapeN hown7; have HV7 := hid (HV1.out.new hown7 hgrow7 hblk7); have HB7 := hid (show Blk w7 g 57 [.slice A E.length c, .int .i64 0] from (hgrow7.block g HB1.out.lt (fun e => own_neN HV1.out.row HB1.out (by decide) e.symm)).trans HB1.out); have HC7 := hid (show Chg w w7 O from (Chg.of_below HAl.out O).trans ((Chg.of_grown hgrow7).more (fun k _ e => HV.out.own k e))); clear hown7 hgrow7 hblk7; obtain ⟨k4, k5, k6, k7⟩ := mk_cells HB7.out))
  try simp only [Act.put]
  have HB8 := hid (HB7.out.put 0 (.slice A7 (E.length + 1) c7))
  have HV8 := hid (HV7.out.other HB7.out (by decide) (by decide) 0 (.slice A7 (E.length + 1) c7))
  have HC8 := hid (HC7.out.set g 0 HG.out (.slice A7 (E.length + 1) c7))
  have hz := HAl.out.size
  have HZ := hid hz
  clear hz k0 k1 k2 k3 k4 k5 k6 k7 HV1 HB1 HN HOwn HV7 HB7 HC7 HB HV HAl
  generalize w7.setCell ⟨g, 0, none⟩ (.slice A7 (E.length + 1) c7) = w8 at *
  simp only [List.set_cons_zero] at HB8
  obtain ⟨k0, k1, k2, k3⟩ := mk_cells HB8.out
  go_wp2_with (go_at_call 16; refine (HLn.out _ _ _ _ _).mono ?_; rintro e w9 ⟨rfl, hb9⟩)
  go_ret
  refine ⟨by go_num, (fun b => O b ∨ w.heap.size ≤ b), ⟨A7, c7, vs ++ [.slice none 0 0], ?_, .inl HG.out, ?_⟩, HC8.out.trans (Chg.of_below hb9 O), fun b hb => hb⟩
  · rw [newE_len]
    exact HB8.out.keep hb9
  · rw [newE_len]
    exact (HV8.out.mono (fun b hb => hb.imp id (fun q => Nat.le_trans HZ.out q))).chg (Chg.of_below hb9 (fun _ => False)) (fun _ _ h => h)
end Go.Proofs.YtoiegkejkahfgaaDoor

/- nfa: one edge more, in open order. -/
namespace Go.Proofs.YtoiegkejkahfgaaDoor
set_option linter.unusedSimpArgs false
set_option linter.unusedVariables false
open Go.RowKit

theorem al_belowN (w : World) (o : Obj) : Below w.heap.size w (w.alloc o) := (Below.refl _ _).alloc (Nat.le_refl _) _
theorem set_infoN (q : BS) : (Tryd.prog.info? 43).map (·.size) = some (setL q).toArray.size := by
  rw [show (setL q).toArray.size = 4 from rfl]; kernel_rfl
section
variable {o : Oper} {a : Act} {w : World} {K : Act → World → Prop} {Q : Exit → Act → World → Prop}
theorem wp_nilN (x : Operand) (ho : o.op = .nilCheck x) (p : Addr) (hx : a.eval x = .pointer (some p)) (h : K (a.put o.dst (.pointer (some p))) w) : o.wp Tryd.prog a w K Q := by
  unfold Oper.wp
  have e : (execOp a.eval o).run Tryd.prog w = .ok (.value (.pointer (some p))) w := by
    unfold execOp
    simp only [ho, hx]
    go_simp
  rw [e]
  exact h
theorem wp_mkF (i : Nat) (ho : o.op = .build 63 #[(0, .tmp i), (2, .const (.bool true))]) (t : Int) (hx : a.eval (.tmp i) = .int .i64 t) (h : K (a.put o.dst (.agg #[.int .i64 t, .int .u64 0, .int .u64 0, .int .u64 0, .int .u64 0, .bool true])) w) : o.wp Tryd.prog a w K Q := by
  unfold Oper.wp
  have hx' : a.tmps[i]?.getD undef = .int .i64 t := by unfold Act.eval at hx; simpa using hx
  have e : (execOp a.eval o).run Tryd.prog w = .ok (.value (.agg #[.int .i64 t, .int .u64 0, .int .u64 0, .int .u64 0, .int .u64 0, .bool true])) w := by
    unfold execOp
    simp only [ho]
    go_simp
    try (simp [hx'])
    try rfl
  rw [e]
  exact h
theorem wp_mkB (i k : Nat) (ho : o.op = .build 63 #[(0, .tmp i), (1, .tmp k)]) (t x0 x1 x2 x3 : Int) (hx : a.eval (.tmp i) = .int .i64 t) (hy : a.eval (.tmp k) = .agg #[.int .u64 x0, .int .u64 x1, .int .u64 x2, .int .u64 x3]) (h : K (a.put o.dst (.agg #[.int .i64 t, .int .u64 x0, .int .u64 x1, .int .u64 x2, .int .u64 x3, .bool false])) w) : o.wp Tryd.prog a w K Q := by
  unfold Oper.wp
  have hx' : a.tmps[i]?.getD undef = .int .i64 t := by unfold Act.eval at hx; simpa using hx
  have hy' : a.tmps[k]?.getD undef = .agg #[.int .u64 x0, .int .u64 x1, .int .u64 x2, .int .u64 x3] := by unfold Act.eval at hy; simpa using hy
  have e : (execOp a.eval o).run Tryd.prog w = .ok (.value (.agg #[.int .i64 t, .int .u64 x0, .int .u64 x1, .int .u64 x2, .int .u64 x3, .bool false])) w := by
    unfold execOp
    simp only [ho]
    go_simp
    try (simp [hx', hy'])
    try rfl
  rw [e]
  exact h
theorem wp_bldE (i : Nat) (ho : o.op = .buildSlice 61 1 #[(0, .tmp i)]) (y : Ed) (hx : a.eval (.tmp i) = .agg y.cells.toArray) (h : K (a.put o.dst (.slice (some ⟨w.heap.size, 0, none⟩) 1 1)) (w.alloc (.cells (y.cells).toArray 63))) : o.wp Tryd.prog a w K Q := by
  unfold Oper.wp
  have hx' : a.tmps[i]?.getD undef = .agg y.cells.toArray := by unfold Act.eval at hx; simpa using hx
  have e : (execOp a.eval o).run Tryd.prog w = .ok (.value (.slice (some ⟨w.heap.size, 0, none⟩) 1 1)) (w.alloc (.cells (y.cells).toArray 63)) := by
    unfold execOp
    simp only [ho]
    go_simp
    try (simp [Ed.cells, newObj]; rfl)
  rw [e]
  exact h
set_option maxRecDepth 10000 in
theorem wp_stE (x y : Operand) (ho : o.op = .store 61 x y) (p : Addr) (hx : a.eval x = .pointer (some p)) (A : Option Addr) (n c : Nat) (hy : a.eval y = .slice A n c) (u : Value) (hc : w.cell? p = some u) (hf : w.frozen? p = false) (h : K (a.put o.dst undef) (w.setCell p (.slice A n c))) : o.wp Tryd.prog a w K Q := by
  unfold Oper.wp
  have e : (execOp a.eval o).run Tryd.prog w = .ok .skip (w.setCell p (.slice A n c)) := by
    unfold execOp
    simp only [ho, hx, hy]
    go_simp
  rw [e, Oper.upon_skip]
  exact h
theorem load_slE {w : World} {p : Addr} {A : Option Addr} {n c : Nat} (h : w.cell? p = some (.slice A n c)) : (Instr.loadAt 61 (.pointer (some p))).run Tryd.prog w = .ok (.slice A n c) w := by
  simp [Instr.loadAt, h]
  go_simp
theorem load_slS {w : World} {p : Addr} {A : Option Addr} {n c : Nat} (h : w.cell? p = some (.slice A n c)) : (Instr.loadAt 31 (.pointer (some p))).run Tryd.prog w = .ok (.slice A n c) w := by
  simp [Instr.loadAt, h]
  go_simp
theorem wp_indexSS (x y : Operand) (ho : o.op = .indexAddr 31 x y) (b n c j : Nat) (hx : a.eval x = .slice (some ⟨b, 0, none⟩) n c) (hy : a.eval y = .int .i64 (j : Int)) (hj : j < n) (h : K (a.put o.dst (.pointer (some ⟨b, j, none⟩))) w) : o.wp Tryd.prog a w K Q := by
  unfold Oper.wp
  have hj' : (j : Int) < (n : Int) := by omega
  have e : (execOp a.eval o).run Tryd.prog w = .ok (.value (.pointer (some ⟨b, j, none⟩))) w := by
    unfold execOp
    simp only [ho, hx, hy]
    go_simp
  rw [e]
  exact h
theorem wp_appE (s x : Operand) (ho : o.op = .call { callee := .builtin .append, args := #[s, x], argTypes := #[61, 61] }) (hty : o.type = 61)
    (base : Nat) (v : Value) (n : Nat) (xs : List Value) (hs : a.eval s = v) (hown : w.ownsRow base 63 6 v n xs) (g : Nat) (y : Ed) (hx : a.eval x = .slice (some ⟨g, 0, none⟩) 1 1) (hr : Blk w g 63 (y.cells)) (hb : n ≤ 1048576) (hbase : base ≤ w.heap.size)
    (h : ∀ g9 c9 w', w'.ownsRow base 63 6 (.slice (some ⟨g9, 0, none⟩) (n + 1) c9) (n + 1) (xs ++ y.cells) → w.grownBy w' v.ownBlock → (v.ownBlock = some g9 ∨ g9 = w.heap.size) → K (a.put o.dst (.slice (some ⟨g9, 0, none⟩) (n + 1) c9)) w') : o.wp Tryd.prog a w K Q := by
  obtain ⟨i0, hi0, hz0, hz1, hz2⟩ := info_parts info_edge
  refine wp_append_lies w s x 61 ho base 63 i0 _ 6 48 Tryd.underlying61 hi0 hz0 hz1 hz2 rfl (by decide) v n xs hs hown ⟨g, 0, none⟩ 1 1 (y.cells) hx rfl (World.news_of_block hr) (ed_ones y) (by decide) (by unfold maxLen; omega) (by omega) hbase w.heap.size rfl ?_
  intro g9 c9 w' h1 h2 h3 _
  exact h g9 c9 w' h1 h2 h3
end
def freOps : Array Oper := #[{ dst := some 6, op := Op.move (Operand.tmp 0), type := 81, pos := "make.go:65", after := #[], guard := none }, { dst := some 7, op := Op.nilCheck (Operand.tmp 6), type := 0, pos := "make.go:65", after := #[{ on := 0, ground := Ground.data }], guard := none }, { dst := some 8, op := Op.fieldAddr 57 (Operand.tmp 7) 0, type := 0, pos := "make.go:65", after := #[{ on := 1, ground := Ground.data }], guard := none }, { dst := some 9, op := Op.fieldAddr 33 (Operand.tmp 8) 0, type := 0, pos := "make.go:65", after := #[{ on := 2, ground := Ground.data }], guard := none }, { dst := some 10, op := Op.load 31 (Operand.tmp 9), type := 31, pos := "make.go:65", after := #[{ on := 3, ground := Ground.data }], guard := none }, { dst := some 11, op := Op.move (Operand.tmp 1), type := 3, pos := "make.go:65", after := #[], guard := none }, { dst := some 12, op := Op.move (Operand.tmp 0), type := 81, pos := "make.go:65", after := #[], guard := none }, { dst := some 13, op := Op.nilCheck (Operand.tmp 12), type := 0, pos := "make.go:65", after := #[{ on := 6, ground := Ground.data }], guard := none }, { dst := some 14, op := Op.fieldAddr 57 (Operand.tmp 13) 0, type := 0, pos := "make.go:65", after := #[{ on := 7, ground := Ground.data }], guard := none }, { dst := some 15, op := Op.fieldAddr 33 (Operand.tmp 14) 0, type := 0, pos := "make.go:65", after := #[{ on := 8, ground := Ground.data }], guard := none }, { dst := some 16, op := Op.load 31 (Operand.tmp 15), type := 31, pos := "make.go:65", after := #[{ on := 9, ground := Ground.data }], guard := none }, { dst := some 17, op := Op.move (Operand.tmp 1), type := 3, pos := "make.go:65", after := #[], guard := none }, { dst := some 18, op := Op.indexAddr 31 (Operand.tmp 16) (Operand.tmp 17), type := 0, pos := "make.go:65", after := #[{ on := 10, ground := Ground.data }, { on := 11, ground := Ground.data }], guard := none }, { dst := some 19, op := Op.load 61 (Operand.tmp 18), type := 61, pos := "make.go:65", after := #[{ on := 12, ground := Ground.data }], guard := none }, { dst := some 20, op := Op.move (Operand.tmp 2), type := 3, pos := "make.go:65", after := #[], guard := none }, { dst := some 21, op := Op.build 63 #[(0, Operand.tmp 20), (2, Operand.const (Value.bool true))], type := 63, pos := "make.go:65", after := #[{ on := 14, ground := Ground.data }], guard := none }, { dst := some 22, op := Op.buildSlice 61 1 #[(0, Operand.tmp 21)], type := 61, pos := "make.go:65", after := #[{ on := 15, ground := Ground.data }], guard := none }, { dst := some 23, op := Op.call { callee := Callee.builtin Builtin.append, args := #[Operand.tmp 19, Operand.tmp 22], argTypes := #[61, 61] }, type := 61, pos := "make.go:65", after := #[{ on := 13, ground := Ground.data }, { on := 16, ground := Ground.data }], guard := none }, { dst := some 24, op := Op.indexAddr 31 (Operand.tmp 10) (Operand.tmp 11), type := 0, pos := "make.go:65", after := #[{ on := 4, ground := Ground.data }, { on := 5, ground := Ground.data }, { on := 0, ground := Ground.phase }, { on := 1, ground := Ground.phase }, { on := 2, ground := Ground.phase }, { on := 3, ground := Ground.phase }, { on := 4, ground := Ground.phase }, { on := 5, ground := Ground.phase }, { on := 6, ground := Ground.phase }, { on := 7, ground := Ground.phase }, { on := 8, ground := Ground.phase }, { on := 9, ground := Ground.phase }, { on := 10, ground := Ground.phase }, { on := 11, ground := Ground.phase }, { on := 12, ground := Ground.phase }, { on := 13, ground := Ground.phase }, { on := 14, ground := Ground.phase }, { on := 15, ground := Ground.phase }, { on := 16, ground := Ground.phase }, { on := 17, ground := Ground.phase }], guard := none }, { dst := none, op := Op.store 61 (Operand.tmp 24) (Operand.tmp 23), type := 0, pos := "make.go:65", after := #[{ on := 18, ground := Ground.data }, { on := 17, ground := Ground.data }, { on := 17, ground := Ground.chain }, { on := 0, ground := Ground.phase }, { on := 1, ground := Ground.phase }, { on := 2, ground := Ground.phase }, { on := 3, ground := Ground.phase }, { on := 4, ground := Ground.phase }, { on := 5, ground := Ground.phase }, { on := 6, ground := Ground.phase }, { on := 7, ground := Ground.phase }, { on := 8, ground := Ground.phase }, { on := 9, ground := Ground.phase }, { on := 10, ground := Ground.phase }, { on := 11, ground := Ground.phase }, { on := 12, ground := Ground.phase }, { on := 13, ground := Ground.phase }, { on := 14, ground := Ground.phase }, { on := 15, ground := Ground.phase }, { on := 16, ground := Ground.phase }, { on := 17, ground := Ground.phase }], guard := none }]
def freDep : Nat → List Nat := fun i => match i with | 1 => [0] | 2 => [1] | 3 => [2] | 4 => [3] | 7 => [6] | 8 => [7] | 9 => [8] | 10 => [9] | 12 => [10, 11] | 13 => [12] | 15 => [14] | 16 => [15] | 17 => [13, 16] | 18 => [4, 5] | 19 => [18, 17, 4, 10, 13, 15] | _ => []
structure freC (g : Nat) (gA : Nat) (nA : Nat) (cA : Nat) (fx : Nat) (tx : Nat) (m : Nat) (cI : Nat) (B : Option Addr) (W1 : World) (R16 : Value → World → Prop) (R17 : Value → World → Prop) (R19 : World → Prop) (L : Nat → Bool) (f : Nat → Value) (w : World) : Prop where
  v0 : L 0 = true → f 6 = .pointer (some ⟨g, 0, none⟩)
  v1 : L 1 = true → f 7 = .pointer (some ⟨g, 0, none⟩)
  v2 : L 2 = true → f 8 = .pointer (some ⟨g, 0, none⟩)
  v3 : L 3 = true → f 9 = .pointer (some ⟨g, 0, none⟩)
  v4 : L 4 = true → f 10 = .slice (some ⟨gA, 0, none⟩) nA cA
  v5 : L 5 = true → f 11 = .int .i64 (fx : Int)
  v6 : L 6 = true → f 12 = .pointer (some ⟨g, 0, none⟩)
  v7 : L 7 = true → f 13 = .pointer (some ⟨g, 0, none⟩)
  v8 : L 8 = true → f 14 = .pointer (some ⟨g, 0, none⟩)
  v9 : L 9 = true → f 15 = .pointer (some ⟨g, 0, none⟩)
  v10 : L 10 = true → f 16 = .slice (some ⟨gA, 0, none⟩) nA cA
  v11 : L 11 = true → f 17 = .int .i64 (fx : Int)
  v12 : L 12 = true → f 18 = .pointer (some ⟨gA, fx, none⟩)
  v13 : L 13 = true → f 19 = .slice B m cI
  v14 : L 14 = true → f 20 = .int .i64 (tx : Int)
  v15 : L 15 = true → f 21 = .agg #[.int .i64 (tx : Int), .int .u64 0, .int .u64 0, .int .u64 0, .int .u64 0, .bool true]
  v18 : L 18 = true → f 24 = .pointer (some ⟨gA, fx, none⟩)
  wz : L 16 = false → w = W1
  w16 : L 16 = true → L 17 = false → R16 (f 22) w
  w17 : L 17 = true → L 19 = false → R17 (f 23) w
  w19 : L 19 = true → R19 w
  d17_16 : L 17 = true → L 16 = true
  d19_17 : L 19 = true → L 17 = true
  d16_15 : L 16 = true → L 15 = true
  d17_13 : L 17 = true → L 13 = true
  d19_18 : L 19 = true → L 18 = true
  d19_4 : L 19 = true → L 4 = true
  d19_10 : L 19 = true → L 10 = true
theorem fre_0 {g : Nat} {gA : Nat} {nA : Nat} {cA : Nat} {fx : Nat} {tx : Nat} {m : Nat} {cI : Nat} {B : Option Addr} {W1 : World} {R16 : Value → World → Prop} {R17 : Value → World → Prop} {R19 : World → Prop} {L : Nat → Bool} {f : Nat → Value} {w : World} (h : freC g gA nA cA fx tx m cI B W1 R16 R17 R19 L f w) : freC g gA nA cA fx tx m cI B W1 R16 R17 R19 (fun k => if k = 0 then true else L k) (fun t => if (some 6 : Option Nat) = some t then (.pointer (some ⟨g, 0, none⟩)) else f t) w where
  v0 := fun _ => by simp
  v1 := by simpa using h.v1
  v2 := by simpa using h.v2
  v3 := by simpa using h.v3
  v4 := by simpa using h.v4
  v5 := by simpa using h.v5
  v6 := by simpa using h.v6
  v7 := by simpa using h.v7
  v8 := by simpa using h.v8
  v9 := by simpa using h.v9
  v10 := by simpa using h.v10
  v11 := by simpa using h.v11
  v12 := by simpa using h.v12
  v13 := by simpa using h.v13
  v14 := by simpa using h.v14
  v15 := by simpa using h.v15
  v18 := by simpa using h.v18
  wz := by simpa using h.wz
  w16 := by simpa using h.w16
  w17 := by simpa using h.w17
  w19 := by simpa using h.w19
  d17_16 := by simpa using h.d17_16
  d19_17 := by simpa using h.d19_17
  d16_15 := by simpa using h.d16_15
  d17_13 := by simpa using h.d17_13
  d19_18 := by simpa using h.d19_18
  d19_4 := by simpa using h.d19_4
  d19_10 := by simpa using h.d19_10
theorem fre_1 {g : Nat} {gA : Nat} {nA : Nat} {cA : Nat} {fx : Nat} {tx : Nat} {m : Nat} {cI : Nat} {B : Option Addr} {W1 : World} {R16 : Value → World → Prop} {R17 : Value → World → Prop} {R19 : World → Prop} {L : Nat → Bool} {f : Nat → Value} {w : World} (h : freC g gA nA cA fx tx m cI B W1 R16 R17 R19 L f w) : freC g gA nA cA fx tx m cI B W1 R16 R17 R19 (fun k => if k = 1 then true else L k) (fun t => if (some 7 : Option Nat) = some t then (.pointer (some ⟨g, 0, none⟩)) else f t) w where
  v0 := by simpa using h.v0
  v1 := fun _ => by simp
  v2 := by simpa using h.v2
  v3 := by simpa using h.v3
  v4 := by simpa using h.v4
  v5 := by simpa using h.v5
  v6 := by simpa using h.v6
  v7 := by simpa using h.v7
  v8 := by simpa using h.v8
  v9 := by simpa using h.v9
  v10 := by simpa using h.v10
  v11 := by simpa using h.v11
  v12 := by simpa using h.v12
  v13 := by simpa using h.v13
  v14 := by simpa using h.v14
  v15 := by simpa using h.v15
  v18 := by simpa using h.v18
  wz := by simpa using h.wz
  w16 := by simpa using h.w16
  w17 := by simpa using h.w17
  w19 := by simpa using h.w19
  d17_16 := by simpa using h.d17_16
  d19_17 := by simpa using h.d19_17
  d16_15 := by simpa using h.d16_15
  d17_13 := by simpa using h.d17_13
  d19_18 := by simpa using h.d19_18
  d19_4 := by simpa using h.d19_4
  d19_10 := by simpa using h.d19_10
theorem fre_2 {g : Nat} {gA : Nat} {nA : Nat} {cA : Nat} {fx : Nat} {tx : Nat} {m : Nat} {cI : Nat} {B : Option Addr} {W1 : World} {R16 : Value → World → Prop} {R17 : Value → World → Prop} {R19 : World → Prop} {L : Nat → Bool} {f : Nat → Value} {w : World} (h : freC g gA nA cA fx tx m cI B W1 R16 R17 R19 L f w) : freC g gA nA cA fx tx m cI B W1 R16 R17 R19 (fun k => if k = 2 then true else L k) (fun t => if (some 8 : Option Nat) = some t then (.pointer (some ⟨g, 0, none⟩)) else f t) w where
  v0 := by simpa using h.v0
  v1 := by simpa using h.v1
  v2 := fun _ => by simp
  v3 := by simpa using h.v3
  v4 := by simpa using h.v4
  v5 := by simpa using h.v5
  v6 := by simpa using h.v6
  v7 := by simpa using h.v7
  v8 := by simpa using h.v8
  v9 := by simpa using h.v9
  v10 := by simpa using h.v10
  v11 := by simpa using h.v11
  v12 := by simpa using h.v12
  v13 := by simpa using h.v13
  v14 := by simpa using h.v14
  v15 := by simpa using h.v15
  v18 := by simpa using h.v18
  wz := by simpa using h.wz
  w16 := by simpa using h.w16
  w17 := by simpa using h.w17
  w19 := by simpa using h.w19
  d17_16 := by simpa using h.d17_16
  d19_17 := by simpa using h.d19_17
  d16_15 := by simpa using h.d16_15
  d17_13 := by simpa using h.d17_13
  d19_18 := by simpa using h.d19_18
  d19_4 := by simpa using h.d19_4
  d19_10 := by simpa using h.d19_10
theorem fre_3 {g : Nat} {gA : Nat} {nA : Nat} {cA : Nat} {fx : Nat} {tx : Nat} {m : Nat} {cI : Nat} {B : Option Addr} {W1 : World} {R16 : Value → World → Prop} {R17 : Value → World → Prop} {R19 : World → Prop} {L : Nat → Bool} {f : Nat → Value} {w : World} (h : freC g gA nA cA fx tx m cI B W1 R16 R17 R19 L f w) : freC g gA nA cA fx tx m cI B W1 R16 R17 R19 (fun k => if k = 3 then true else L k) (fun t => if (some 9 : Option Nat) = some t then (.pointer (some ⟨g, 0, none⟩)) else f t) w where
  v0 := by simpa using h.v0
  v1 := by simpa using h.v1
  v2 := by simpa using h.v2
  v3 := fun _ => by simp
  v4 := by simpa using h.v4
  v5 := by simpa using h.v5
  v6 := by simpa using h.v6
  v7 := by simpa using h.v7
  v8 := by simpa using h.v8
  v9 := by simpa using h.v9
  v10 := by simpa using h.v10
  v11 := by simpa using h.v11
  v12 := by simpa using h.v12
  v13 := by simpa using h.v13
  v14 := by simpa using h.v14
  v15 := by simpa using h.v15
  v18 := by simpa using h.v18
  wz := by simpa using h.wz
  w16 := by simpa using h.w16
  w17 := by simpa using h.w17
  w19 := by simpa using h.w19
  d17_16 := by simpa using h.d17_16
  d19_17 := by simpa using h.d19_17
  d16_15 := by simpa using h.d16_15
  d17_13 := by simpa using h.d17_13
  d19_18 := by simpa using h.d19_18
  d19_4 := by simpa using h.d19_4
  d19_10 := by simpa using h.d19_10
theorem fre_4 {g : Nat} {gA : Nat} {nA : Nat} {cA : Nat} {fx : Nat} {tx : Nat} {m : Nat} {cI : Nat} {B : Option Addr} {W1 : World} {R16 : Value → World → Prop} {R17 : Value → World → Prop} {R19 : World → Prop} {L : Nat → Bool} {f : Nat → Value} {w : World} (h : freC g gA nA cA fx tx m cI B W1 R16 R17 R19 L f w) : freC g gA nA cA fx tx m cI B W1 R16 R17 R19 (fun k => if k = 4 then true else L k) (fun t => if (some 10 : Option Nat) = some t then (.slice (some ⟨gA, 0, none⟩) nA cA) else f t) w where
  v0 := by simpa using h.v0
  v1 := by simpa using h.v1
  v2 := by simpa using h.v2
  v3 := by simpa using h.v3
  v4 := fun _ => by simp
  v5 := by simpa using h.v5
  v6 := by simpa using h.v6
  v7 := by simpa using h.v7
  v8 := by simpa using h.v8
  v9 := by simpa using h.v9
  v10 := by simpa using h.v10
  v11 := by simpa using h.v11
  v12 := by simpa using h.v12
  v13 := by simpa using h.v13
  v14 := by simpa using h.v14
  v15 := by simpa using h.v15
  v18 := by simpa using h.v18
  wz := by simpa using h.wz
  w16 := by simpa using h.w16
  w17 := by simpa using h.w17
  w19 := by simpa using h.w19
  d17_16 := by simpa using h.d17_16
  d19_17 := by simpa using h.d19_17
  d16_15 := by simpa using h.d16_15
  d17_13 := by simpa using h.d17_13
  d19_18 := by simpa using h.d19_18
  d19_4 := fun _ => by simp
  d19_10 := by simpa using h.d19_10
theorem fre_5 {g : Nat} {gA : Nat} {nA : Nat} {cA : Nat} {fx : Nat} {tx : Nat} {m : Nat} {cI : Nat} {B : Option Addr} {W1 : World} {R16 : Value → World → Prop} {R17 : Value → World → Prop} {R19 : World → Prop} {L : Nat → Bool} {f : Nat → Value} {w : World} (h : freC g gA nA cA fx tx m cI B W1 R16 R17 R19 L f w) : freC g gA nA cA fx tx m cI B W1 R16 R17 R19 (fun k => if k = 5 then true else L k) (fun t => if (some 11 : Option Nat) = some t then (.int .i64 (fx : Int)) else f t) w where
  v0 := by simpa using h.v0
  v1 := by simpa using h.v1
  v2 := by simpa using h.v2
  v3 := by simpa using h.v3
  v4 := by simpa using h.v4
  v5 := fun _ => by simp
  v6 := by simpa using h.v6
  v7 := by simpa using h.v7
  v8 := by simpa using h.v8
  v9 := by simpa using h.v9
  v10 := by simpa using h.v10
  v11 := by simpa using h.v11
  v12 := by simpa using h.v12
  v13 := by simpa using h.v13
  v14 := by simpa using h.v14
  v15 := by simpa using h.v15
  v18 := by simpa using h.v18
  wz := by simpa using h.wz
  w16 := by simpa using h.w16
  w17 := by simpa using h.w17
  w19 := by simpa using h.w19
  d17_16 := by simpa using h.d17_16
  d19_17 := by simpa using h.d19_17
  d16_15 := by simpa using h.d16_15
  d17_13 := by simpa using h.d17_13
  d19_18 := by simpa using h.d19_18
  d19_4 := by simpa using h.d19_4
  d19_10 := by simpa using h.d19_10
theorem fre_6 {g : Nat} {gA : Nat} {nA : Nat} {cA : Nat} {fx : Nat} {tx : Nat} {m : Nat} {cI : Nat} {B : Option Addr} {W1 : World} {R16 : Value → World → Prop} {R17 : Value → World → Prop} {R19 : World → Prop} {L : Nat → Bool} {f : Nat → Value} {w : World} (h : freC g gA nA cA fx tx m cI B W1 R16 R17 R19 L f w) : freC g gA nA cA fx tx m cI B W1 R16 R17 R19 (fun k => if k = 6 then true else L k) (fun t => if (some 12 : Option Nat) = some t then (.pointer (some ⟨g, 0, none⟩)) else f t) w where
  v0 := by simpa using h.v0
  v1 := by simpa using h.v1
  v2 := by simpa using h.v2
  v3 := by simpa using h.v3
  v4 := by simpa using h.v4
  v5 := by simpa using h.v5
  v6 := fun _ => by simp
  v7 := by simpa using h.v7
  v8 := by simpa using h.v8
  v9 := by simpa using h.v9
  v10 := by simpa using h.v10
  v11 := by simpa using h.v11
  v12 := by simpa using h.v12
  v13 := by simpa using h.v13
  v14 := by simpa using h.v14
  v15 := by simpa using h.v15
  v18 := by simpa using h.v18
  wz := by simpa using h.wz
  w16 := by simpa using h.w16
  w17 := by simpa using h.w17
  w19 := by simpa using h.w19
  d17_16 := by simpa using h.d17_16
  d19_17 := by simpa using h.d19_17
  d16_15 := by simpa using h.d16_15
  d17_13 := by simpa using h.d17_13
  d19_18 := by simpa using h.d19_18
  d19_4 := by simpa using h.d19_4
  d19_10 := by simpa using h.d19_10
theorem fre_7 {g : Nat} {gA : Nat} {nA : Nat} {cA : Nat} {fx : Nat} {tx : Nat} {m : Nat} {cI : Nat} {B : Option Addr} {W1 : World} {R16 : Value → World → Prop} {R17 : Value → World → Prop} {R19 : World → Prop} {L : Nat → Bool} {f : Nat → Value} {w : World} (h : freC g gA nA cA fx tx m cI B W1 R16 R17 R19 L f w) : freC g gA nA cA fx tx m cI B W1 R16 R17 R19 (fun k => if k = 7 then true else L k) (fun t => if (some 13 : Option Nat) = some t then (.pointer (some ⟨g, 0, none⟩)) else f t) w where
  v0 := by simpa using h.v0
  v1 := by simpa using h.v1
  v2 := by simpa using h.v2
  v3 := by simpa using h.v3
  v4 := by simpa using h.v4
  v5 := by simpa using h.v5
  v6 := by simpa using h.v6
  v7 := fun _ => by simp
  v8 := by simpa using h.v8
  v9 := by simpa using h.v9
  v10 := by simpa using h.v10
  v11 := by simpa using h.v11
  v12 := by simpa using h.v12
  v13 := by simpa using h.v13
  v14 := by simpa using h.v14
  v15 := by simpa using h.v15
  v18 := by simpa using h.v18
  wz := by simpa using h.wz
  w16 := by simpa using h.w16
  w17 := by simpa using h.w17
  w19 := by simpa using h.w19
  d17_16 := by simpa using h.d17_16
  d19_17 := by simpa using h.d19_17
  d16_15 := by simpa using h.d16_15
  d17_13 := by simpa using h.d17_13
  d19_18 := by simpa using h.d19_18
  d19_4 := by simpa using h.d19_4
  d19_10 := by simpa using h.d19_10
theorem fre_8 {g : Nat} {gA : Nat} {nA : Nat} {cA : Nat} {fx : Nat} {tx : Nat} {m : Nat} {cI : Nat} {B : Option Addr} {W1 : World} {R16 : Value → World → Prop} {R17 : Value → World → Prop} {R19 : World → Prop} {L : Nat → Bool} {f : Nat → Value} {w : World} (h : freC g gA nA cA fx tx m cI B W1 R16 R17 R19 L f w) : freC g gA nA cA fx tx m cI B W1 R16 R17 R19 (fun k => if k = 8 then true else L k) (fun t => if (some 14 : Option Nat) = some t then (.pointer (some ⟨g, 0, none⟩)) else f t) w where
  v0 := by simpa using h.v0
  v1 := by simpa using h.v1
  v2 := by simpa using h.v2
  v3 := by simpa using h.v3
  v4 := by simpa using h.v4
  v5 := by simpa using h.v5
  v6 := by simpa using h.v6
  v7 := by simpa using h.v7
  v8 := fun _ => by simp
  v9 := by simpa using h.v9
  v10 := by simpa using h.v10
  v11 := by simpa using h.v11
  v12 := by simpa using h.v12
  v13 := by simpa using h.v13
  v14 := by simpa using h.v14
  v15 := by simpa using h.v15
  v18 := by simpa using h.v18
  wz := by simpa using h.wz
  w16 := by simpa using h.w16
  w17 := by simpa using h.w17
  w19 := by simpa using h.w19
  d17_16 := by simpa using h.d17_16
  d19_17 := by simpa using h.d19_17
  d16_15 := by simpa using h.d16_15
  d17_13 := by simpa using h.d17_13
  d19_18 := by simpa using h.d19_18
  d19_4 := by simpa using h.d19_4
  d19_10 := by simpa using h.d19_10
theorem fre_9 {g : Nat} {gA : Nat} {nA : Nat} {cA : Nat} {fx : Nat} {tx : Nat} {m : Nat} {cI : Nat} {B : Option Addr} {W1 : World} {R16 : Value → World → Prop} {R17 : Value → World → Prop} {R19 : World → Prop} {L : Nat → Bool} {f : Nat → Value} {w : World} (h : freC g gA nA cA fx tx m cI B W1 R16 R17 R19 L f w) : freC g gA nA cA fx tx m cI B W1 R16 R17 R19 (fun k => if k = 9 then true else L k) (fun t => if (some 15 : Option Nat) = some t then (.pointer (some ⟨g, 0, none⟩)) else f t) w where
  v0 := by simpa using h.v0
  v1 := by simpa using h.v1
  v2 := by simpa using h.v2
  v3 := by simpa using h.v3
  v4 := by simpa using h.v4
  v5 := by simpa using h.v5
  v6 := by simpa using h.v6
  v7 := by simpa using h.v7
  v8 := by simpa using h.v8
  v9 := fun _ => by simp
  v10 := by simpa using h.v10
  v11 := by simpa using h.v11
  v12 := by simpa using h.v12
  v13 := by simpa using h.v13
  v14 := by simpa using h.v14
  v15 := by simpa using h.v15
  v18 := by simpa using h.v18
  wz := by simpa using h.wz
  w16 := by simpa using h.w16
  w17 := by simpa using h.w17
  w19 := by simpa using h.w19
  d17_16 := by simpa using h.d17_16
  d19_17 := by simpa using h.d19_17
  d16_15 := by simpa using h.d16_15
  d17_13 := by simpa using h.d17_13
  d19_18 := by simpa using h.d19_18
  d19_4 := by simpa using h.d19_4
  d19_10 := by simpa using h.d19_10
theorem fre_10 {g : Nat} {gA : Nat} {nA : Nat} {cA : Nat} {fx : Nat} {tx : Nat} {m : Nat} {cI : Nat} {B : Option Addr} {W1 : World} {R16 : Value → World → Prop} {R17 : Value → World → Prop} {R19 : World → Prop} {L : Nat → Bool} {f : Nat → Value} {w : World} (h : freC g gA nA cA fx tx m cI B W1 R16 R17 R19 L f w) : freC g gA nA cA fx tx m cI B W1 R16 R17 R19 (fun k => if k = 10 then true else L k) (fun t => if (some 16 : Option Nat) = some t then (.slice (some ⟨gA, 0, none⟩) nA cA) else f t) w where
  v0 := by simpa using h.v0
  v1 := by simpa using h.v1
  v2 := by simpa using h.v2
  v3 := by simpa using h.v3
  v4 := by simpa using h.v4
  v5 := by simpa using h.v5
  v6 := by simpa using h.v6
  v7 := by simpa using h.v7
  v8 := by simpa using h.v8
  v9 := by simpa using h.v9
  v10 := fun _ => by simp
  v11 := by simpa using h.v11
  v12 := by simpa using h.v12
  v13 := by simpa using h.v13
  v14 := by simpa using h.v14
  v15 := by simpa using h.v15
  v18 := by simpa using h.v18
  wz := by simpa using h.wz
  w16 := by simpa using h.w16
  w17 := by simpa using h.w17
  w19 := by simpa using h.w19
  d17_16 := by simpa using h.d17_16
  d19_17 := by simpa using h.d19_17
  d16_15 := by simpa using h.d16_15
  d17_13 := by simpa using h.d17_13
  d19_18 := by simpa using h.d19_18
  d19_4 := by simpa using h.d19_4
  d19_10 := fun _ => by simp
theorem fre_11 {g : Nat} {gA : Nat} {nA : Nat} {cA : Nat} {fx : Nat} {tx : Nat} {m : Nat} {cI : Nat} {B : Option Addr} {W1 : World} {R16 : Value → World → Prop} {R17 : Value → World → Prop} {R19 : World → Prop} {L : Nat → Bool} {f : Nat → Value} {w : World} (h : freC g gA nA cA fx tx m cI B W1 R16 R17 R19 L f w) : freC g gA nA cA fx tx m cI B W1 R16 R17 R19 (fun k => if k = 11 then true else L k) (fun t => if (some 17 : Option Nat) = some t then (.int .i64 (fx : Int)) else f t) w where
  v0 := by simpa using h.v0
  v1 := by simpa using h.v1
  v2 := by simpa using h.v2
  v3 := by simpa using h.v3
  v4 := by simpa using h.v4
  v5 := by simpa using h.v5
  v6 := by simpa using h.v6
  v7 := by simpa using h.v7
  v8 := by simpa using h.v8
  v9 := by simpa using h.v9
  v10 := by simpa using h.v10
  v11 := fun _ => by simp
  v12 := by simpa using h.v12
  v13 := by simpa using h.v13
  v14 := by simpa using h.v14
  v15 := by simpa using h.v15
  v18 := by simpa using h.v18
  wz := by simpa using h.wz
  w16 := by simpa using h.w16
  w17 := by simpa using h.w17
  w19 := by simpa using h.w19
  d17_16 := by simpa using h.d17_16
  d19_17 := by simpa using h.d19_17
  d16_15 := by simpa using h.d16_15
  d17_13 := by simpa using h.d17_13
  d19_18 := by simpa using h.d19_18
  d19_4 := by simpa using h.d19_4
  d19_10 := by simpa using h.d19_10
theorem fre_12 {g : Nat} {gA : Nat} {nA : Nat} {cA : Nat} {fx : Nat} {tx : Nat} {m : Nat} {cI : Nat} {B : Option Addr} {W1 : World} {R16 : Value → World → Prop} {R17 : Value → World → Prop} {R19 : World → Prop} {L : Nat → Bool} {f : Nat → Value} {w : World} (h : freC g gA nA cA fx tx m cI B W1 R16 R17 R19 L f w) : freC g gA nA cA fx tx m cI B W1 R16 R17 R19 (fun k => if k = 12 then true else L k) (fun t => if (some 18 : Option Nat) = some t then (.pointer (some ⟨gA, fx, none⟩)) else f t) w where
  v0 := by simpa using h.v0
  v1 := by simpa using h.v1
  v2 := by simpa using h.v2
  v3 := by simpa using h.v3
  v4 := by simpa using h.v4
  v5 := by simpa using h.v5
  v6 := by simpa using h.v6
  v7 := by simpa using h.v7
  v8 := by simpa using h.v8
  v9 := by simpa using h.v9
  v10 := by simpa using h.v10
  v11 := by simpa using h.v11
  v12 := fun _ => by simp
  v13 := by simpa using h.v13
  v14 := by simpa using h.v14
  v15 := by simpa using h.v15
  v18 := by simpa using h.v18
  wz := by simpa using h.wz
  w16 := by simpa using h.w16
  w17 := by simpa using h.w17
  w19 := by simpa using h.w19
  d17_16 := by simpa using h.d17_16
  d19_17 := by simpa using h.d19_17
  d16_15 := by simpa using h.d16_15
  d17_13 := by simpa using h.d17_13
  d19_18 := by simpa using h.d19_18
  d19_4 := by simpa using h.d19_4
  d19_10 := by simpa using h.d19_10
theorem fre_13 {g : Nat} {gA : Nat} {nA : Nat} {cA : Nat} {fx : Nat} {tx : Nat} {m : Nat} {cI : Nat} {B : Option Addr} {W1 : World} {R16 : Value → World → Prop} {R17 : Value → World → Prop} {R19 : World → Prop} {L : Nat → Bool} {f : Nat → Value} {w : World} (h : freC g gA nA cA fx tx m cI B W1 R16 R17 R19 L f w) : freC g gA nA cA fx tx m cI B W1 R16 R17 R19 (fun k => if k = 13 then true else L k) (fun t => if (some 19 : Option Nat) = some t then (.slice B m cI) else f t) w where
  v0 := by simpa using h.v0
  v1 := by simpa using h.v1
  v2 := by simpa using h.v2
  v3 := by simpa using h.v3
  v4 := by simpa using h.v4
  v5 := by simpa using h.v5
  v6 := by simpa using h.v6
  v7 := by simpa using h.v7
  v8 := by simpa using h.v8
  v9 := by simpa using h.v9
  v10 := by simpa using h.v10
  v11 := by simpa using h.v11
  v12 := by simpa using h.v12
  v13 := fun _ => by simp
  v14 := by simpa using h.v14
  v15 := by simpa using h.v15
  v18 := by simpa using h.v18
  wz := by simpa using h.wz
  w16 := by simpa using h.w16
  w17 := by simpa using h.w17
  w19 := by simpa using h.w19
  d17_16 := by simpa using h.d17_16
  d19_17 := by simpa using h.d19_17
  d16_15 := by simpa using h.d16_15
  d17_13 := fun _ => by simp
  d19_18 := by simpa using h.d19_18
  d19_4 := by simpa using h.d19_4
  d19_10 := by simpa using h.d19_10
theorem fre_14 {g : Nat} {gA : Nat} {nA : Nat} {cA : Nat} {fx : Nat} {tx : Nat} {m : Nat} {cI : Nat} {B : Option Addr} {W1 : World} {R16 : Value → World → Prop} {R17 : Value → World → Prop} {R19 : World → Prop} {L : Nat → Bool} {f : Nat → Value} {w : World} (h : freC g gA nA cA fx tx m cI B W1 R16 R17 R19 L f w) : freC g gA nA cA fx tx m cI B W1 R16 R17 R19 (fun k => if k = 14 then true else L k) (fun t => if (some 20 : Option Nat) = some t then (.int .i64 (tx : Int)) else f t) w where
  v0 := by simpa using h.v0
  v1 := by simpa using h.v1
  v2 := by simpa using h.v2
  v3 := by simpa using h.v3
  v4 := by simpa using h.v4
  v5 := by simpa using h.v5
  v6 := by simpa using h.v6
  v7 := by simpa using h.v7
  v8 := by simpa using h.v8
  v9 := by simpa using h.v9
  v10 := by simpa using h.v10
  v11 := by simpa using h.v11
  v12 := by simpa using h.v12
  v13 := by simpa using h.v13
  v14 := fun _ => by simp
  v15 := by simpa using h.v15
  v18 := by simpa using h.v18
  wz := by simpa using h.wz
  w16 := by simpa using h.w16
  w17 := by simpa using h.w17
  w19 := by simpa using h.w19
  d17_16 := by simpa using h.d17_16
  d19_17 := by simpa using h.d19_17
  d16_15 := by simpa using h.d16_15
  d17_13 := by simpa using h.d17_13
  d19_18 := by simpa using h.d19_18
  d19_4 := by simpa using h.d19_4
  d19_10 := by simpa using h.d19_10
theorem fre_15 {g : Nat} {gA : Nat} {nA : Nat} {cA : Nat} {fx : Nat} {tx : Nat} {m : Nat} {cI : Nat} {B : Option Addr} {W1 : World} {R16 : Value → World → Prop} {R17 : Value → World → Prop} {R19 : World → Prop} {L : Nat → Bool} {f : Nat → Value} {w : World} (h : freC g gA nA cA fx tx m cI B W1 R16 R17 R19 L f w) : freC g gA nA cA fx tx m cI B W1 R16 R17 R19 (fun k => if k = 15 then true else L k) (fun t => if (some 21 : Option Nat) = some t then (.agg #[.int .i64 (tx : Int), .int .u64 0, .int .u64 0, .int .u64 0, .int .u64 0, .bool true]) else f t) w where
  v0 := by simpa using h.v0
  v1 := by simpa using h.v1
  v2 := by simpa using h.v2
  v3 := by simpa using h.v3
  v4 := by simpa using h.v4
  v5 := by simpa using h.v5
  v6 := by simpa using h.v6
  v7 := by simpa using h.v7
  v8 := by simpa using h.v8
  v9 := by simpa using h.v9
  v10 := by simpa using h.v10
  v11 := by simpa using h.v11
  v12 := by simpa using h.v12
  v13 := by simpa using h.v13
  v14 := by simpa using h.v14
  v15 := fun _ => by simp
  v18 := by simpa using h.v18
  wz := by simpa using h.wz
  w16 := by simpa using h.w16
  w17 := by simpa using h.w17
  w19 := by simpa using h.w19
  d17_16 := by simpa using h.d17_16
  d19_17 := by simpa using h.d19_17
  d16_15 := fun _ => by simp
  d17_13 := by simpa using h.d17_13
  d19_18 := by simpa using h.d19_18
  d19_4 := by simpa using h.d19_4
  d19_10 := by simpa using h.d19_10
theorem fre_16 {g : Nat} {gA : Nat} {nA : Nat} {cA : Nat} {fx : Nat} {tx : Nat} {m : Nat} {cI : Nat} {B : Option Addr} {W1 : World} {R16 : Value → World → Prop} {R17 : Value → World → Prop} {R19 : World → Prop} {L : Nat → Bool} {f : Nat → Value} {w : World} {v : Value} {w2 : World} (h : freC g gA nA cA fx tx m cI B W1 R16 R17 R19 L f w) (h16 : L 16 = false) (h15 : L 15 = true) (hp : R16 v w2) : freC g gA nA cA fx tx m cI B W1 R16 R17 R19 (fun k => if k = 16 then true else L k) (fun t => if (some 22 : Option Nat) = some t then v else f t) w2 := by
  have h17 : L 17 = false := by cases hh : L 17 with | false => rfl | true => exact absurd (h.d17_16 hh) (by rw [h16]; decide)
  have h19 : L 19 = false := by cases hh : L 19 with | false => rfl | true => exact absurd (h.d19_17 hh) (by rw [h17]; decide)
  constructor
  · simpa using h.v0
  · simpa using h.v1
  · simpa using h.v2
  · simpa using h.v3
  · simpa using h.v4
  · simpa using h.v5
  · simpa using h.v6
  · simpa using h.v7
  · simpa using h.v8
  · simpa using h.v9
  · simpa using h.v10
  · simpa using h.v11
  · simpa using h.v12
  · simpa using h.v13
  · simpa using h.v14
  · simpa using h.v15
  · simpa using h.v18
  · intro hh; simp at hh
  · intro _ _; simpa using hp
  · intro hh _; simp [h17] at hh
  · intro hh; simp [h19] at hh
  · intro _; simp
  · simpa using h.d19_17
  · intro _; simpa using h15
  · simpa using h.d17_13
  · simpa using h.d19_18
  · simpa using h.d19_4
  · simpa using h.d19_10
theorem fre_17 {g : Nat} {gA : Nat} {nA : Nat} {cA : Nat} {fx : Nat} {tx : Nat} {m : Nat} {cI : Nat} {B : Option Addr} {W1 : World} {R16 : Value → World → Prop} {R17 : Value → World → Prop} {R19 : World → Prop} {L : Nat → Bool} {f : Nat → Value} {w : World} {v : Value} {w2 : World} (h : freC g gA nA cA fx tx m cI B W1 R16 R17 R19 L f w) (h16 : L 16 = true) (h17 : L 17 = false) (h13 : L 13 = true) (hp : R17 v w2) : freC g gA nA cA fx tx m cI B W1 R16 R17 R19 (fun k => if k = 17 then true else L k) (fun t => if (some 23 : Option Nat) = some t then v else f t) w2 := by
  have h19 : L 19 = false := by cases hh : L 19 with | false => rfl | true => exact absurd (h.d19_17 hh) (by rw [h17]; decide)
  constructor
  · simpa using h.v0
  · simpa using h.v1
  · simpa using h.v2
  · simpa using h.v3
  · simpa using h.v4
  · simpa using h.v5
  · simpa using h.v6
  · simpa using h.v7
  · simpa using h.v8
  · simpa using h.v9
  · simpa using h.v10
  · simpa using h.v11
  · simpa using h.v12
  · simpa using h.v13
  · simpa using h.v14
  · simpa using h.v15
  · simpa using h.v18
  · intro hh; simp [h16] at hh
  · intro _ hh; simp at hh
  · intro _ _; simpa using hp
  · intro hh; simp [h19] at hh
  · intro _; simpa using h16
  · intro _; simp
  · simpa using h.d16_15
  · intro _; simpa using h13
  · simpa using h.d19_18
  · simpa using h.d19_4
  · simpa using h.d19_10
theorem fre_18 {g : Nat} {gA : Nat} {nA : Nat} {cA : Nat} {fx : Nat} {tx : Nat} {m : Nat} {cI : Nat} {B : Option Addr} {W1 : World} {R16 : Value → World → Prop} {R17 : Value → World → Prop} {R19 : World → Prop} {L : Nat → Bool} {f : Nat → Value} {w : World} (h : freC g gA nA cA fx tx m cI B W1 R16 R17 R19 L f w) : freC g gA nA cA fx tx m cI B W1 R16 R17 R19 (fun k => if k = 18 then true else L k) (fun t => if (some 24 : Option Nat) = some t then (.pointer (some ⟨gA, fx, none⟩)) else f t) w where
  v0 := by simpa using h.v0
  v1 := by simpa using h.v1
  v2 := by simpa using h.v2
  v3 := by simpa using h.v3
  v4 := by simpa using h.v4
  v5 := by simpa using h.v5
  v6 := by simpa using h.v6
  v7 := by simpa using h.v7
  v8 := by simpa using h.v8
  v9 := by simpa using h.v9
  v10 := by simpa using h.v10
  v11 := by simpa using h.v11
  v12 := by simpa using h.v12
  v13 := by simpa using h.v13
  v14 := by simpa using h.v14
  v15 := by simpa using h.v15
  v18 := fun _ => by simp
  wz := by simpa using h.wz
  w16 := by simpa using h.w16
  w17 := by simpa using h.w17
  w19 := by simpa using h.w19
  d17_16 := by simpa using h.d17_16
  d19_17 := by simpa using h.d19_17
  d16_15 := by simpa using h.d16_15
  d17_13 := by simpa using h.d17_13
  d19_18 := fun _ => by simp
  d19_4 := by simpa using h.d19_4
  d19_10 := by simpa using h.d19_10
theorem fre_19 {g : Nat} {gA : Nat} {nA : Nat} {cA : Nat} {fx : Nat} {tx : Nat} {m : Nat} {cI : Nat} {B : Option Addr} {W1 : World} {R16 : Value → World → Prop} {R17 : Value → World → Prop} {R19 : World → Prop} {L : Nat → Bool} {f : Nat → Value} {w : World} {v : Value} {w2 : World} (h : freC g gA nA cA fx tx m cI B W1 R16 R17 R19 L f w) (h16 : L 16 = true) (h17 : L 17 = true) (h19 : L 19 = false) (h18 : L 18 = true) (h4 : L 4 = true) (h10 : L 10 = true) (hp : R19 w2) : freC g gA nA cA fx tx m cI B W1 R16 R17 R19 (fun k => if k = 19 then true else L k) (fun t => if (none : Option Nat) = some t then v else f t) w2 := by
  constructor
  · simpa using h.v0
  · simpa using h.v1
  · simpa using h.v2
  · simpa using h.v3
  · simpa using h.v4
  · simpa using h.v5
  · simpa using h.v6
  · simpa using h.v7
  · simpa using h.v8
  · simpa using h.v9
  · simpa using h.v10
  · simpa using h.v11
  · simpa using h.v12
  · simpa using h.v13
  · simpa using h.v14
  · simpa using h.v15
  · simpa using h.v18
  · intro hh; simp [h16] at hh
  · intro _ hh; simp [h17] at hh
  · intro _ hh; simp at hh
  · intro _; simpa using hp
  · simpa using h.d17_16
  · intro _; simpa using h17
  · simpa using h.d16_15
  · simpa using h.d17_13
  · intro _; simpa using h18
  · intro _; simpa using h4
  · intro _; simpa using h10
def freUs (f : Nat → Value) : List (Nat × Value) := [(6, f 6), (7, f 7), (8, f 8), (9, f 9), (10, f 10), (11, f 11), (12, f 12), (13, f 13), (14, f 14), (15, f 15), (16, f 16), (17, f 17), (18, f 18), (19, f 19), (20, f 20), (21, f 21), (22, f 22), (23, f 23), (24, f 24)]
set_option maxRecDepth 20000 in
set_option maxHeartbeats 2000000 in
theorem fre_reg {g gA nA cA fx tx m cI : Nat} {B : Option Addr} {W : World} {xs : List Value} {R4 : World → Prop} {A0 : Act} {Q : Exit → Act → World → Prop} {id : Nat} (a0 : Act.at A0 0 = .pointer (some ⟨g, 0, none⟩)) (a1 : Act.at A0 1 = .int .i64 (fx : Int)) (a2 : Act.at A0 2 = .int .i64 (tx : Int)) (hsz : 25 ≤ A0.tmps.size) (hfn : fx < nA) (hm : m ≤ 1048576) (hG : W.drew.cell? ⟨g, 0, none⟩ = some (.slice (some ⟨gA, 0, none⟩) nA cA)) (hI : W.drew.cell? ⟨gA, fx, none⟩ = some (.slice B m cI)) (hltg : g < W.drew.heap.size) (hltA : gA < W.drew.heap.size)
    (hown : W.drew.ownsRow 0 63 6 (.slice B m cI) m xs)
    (hR3 : ∀ g9 c9 w', w'.ownsRow 0 63 6 (.slice (some ⟨g9, 0, none⟩) (m + 1) c9) (m + 1) (xs ++ (Ed.mk tx (0#256) true).cells) → (W.drew.alloc (.cells ((Ed.mk tx (0#256) true).cells).toArray 63)).grownBy w' (Value.slice B m cI).ownBlock → ((Value.slice B m cI).ownBlock = some g9 ∨ g9 = (W.drew.alloc (.cells ((Ed.mk tx (0#256) true).cells).toArray 63)).heap.size) → w'.cell? ⟨g, 0, none⟩ = some (.slice (some ⟨gA, 0, none⟩) nA cA) ∧ w'.cell? ⟨gA, fx, none⟩ = some (.slice B m cI) ∧ w'.frozen? ⟨gA, fx, none⟩ = false ∧ True ∧ R4 (w'.setCell ⟨gA, fx, none⟩ (.slice (some ⟨g9, 0, none⟩) (m + 1) c9)))
    (hk : ∀ (f : Nat → Value) w', R4 w' → Q .normal ⟨(freUs f).foldl (fun A p => A.setIfInBounds p.1 p.2) A0.tmps, A0.defers⟩ w') :
    (Code.region id freOps true).wp Tryd.prog Q A0 W := by
  refine wp_region_fun (by kernel_rfl) (fun L f_ w => freC g gA nA cA fx tx m cI B W.drew (fun u w => u = .slice (some ⟨W.drew.heap.size, 0, none⟩) 1 1 ∧ w = W.drew.alloc (.cells ((Ed.mk tx (0#256) true).cells).toArray 63)) (fun u w => ∃ g9 c9, u = .slice (some ⟨g9, 0, none⟩) (m + 1) c9 ∧ w.cell? ⟨g, 0, none⟩ = some (.slice (some ⟨gA, 0, none⟩) nA cA) ∧ w.cell? ⟨gA, fx, none⟩ = some (.slice B m cI) ∧ w.frozen? ⟨gA, fx, none⟩ = false ∧ True ∧ R4 (w.setCell ⟨gA, fx, none⟩ (.slice (some ⟨g9, 0, none⟩) (m + 1) c9))) R4 L f_ w) [6, 7, 8, 9, 10, 11, 12, 13, 14, 15, 16, 17, 18, 19, 20, 21, 22, 23, 24] (wf_ops2 (by kernel_rfl)) (fun i o ho u hu => ?_) ?_ ?_ ?_
  · have := ops_dst [6, 7, 8, 9, 10, 11, 12, 13, 14, 15, 16, 17, 18, 19, 20, 21, 22, 23, 24] 25 (by kernel_rfl) i o ho u hu
    exact ⟨this.1, Nat.lt_of_lt_of_le this.2 hsz⟩
  · have hs : freOps.size = 20 := rfl
    rw [hs]
    constructor <;> first | exact (fun _ => rfl) | (intro h; simp at h) | (intro h h2; simp at h)
  · rintro L i o ho hLi haf b w hf hc K hK
    have hdep := ops_deps freDep (by kernel_rfl) ho haf
    clear haf
    have hs : freOps.size = 20 := rfl
    have hlt : i < 20 := hs ▸ (Array.getElem?_eq_some_iff.1 ho).1
    have hcases : i = 0 ∨ i = 1 ∨ i = 2 ∨ i = 3 ∨ i = 4 ∨ i = 5 ∨ i = 6 ∨ i = 7 ∨ i = 8 ∨ i = 9 ∨ i = 10 ∨ i = 11 ∨ i = 12 ∨ i = 13 ∨ i = 14 ∨ i = 15 ∨ i = 16 ∨ i = 17 ∨ i = 18 ∨ i = 19 := by omega
    rcases hcases with rfl | rfl | rfl | rfl | rfl | rfl | rfl | rfl | rfl | rfl | rfl | rfl | rfl | rfl | rfl | rfl | rfl | rfl | rfl | rfl
    · have h1 : (freOps[0]?).map (·.dst) = some (some 6) := by kernel_rfl
      have h2 : (freOps[0]?).map (·.op) = some (Op.move (Operand.tmp 0)) := by kernel_rfl
      rw [ho] at h1 h2
      replace h1 := Option.some.inj h1
      replace h2 := Option.some.inj h2
      simp only at h1 h2
      rw [h1] at hK
      refine wp_moveG _ h2 _ ((hf 0 (by decide)).trans a0) ?_
      rw [h1]
      exact hK _ _ (fre_0 hc)
    · have h1 : (freOps[1]?).map (·.dst) = some (some 7) := by kernel_rfl
      have h2 : (freOps[1]?).map (·.op) = some (Op.nilCheck (Operand.tmp 6)) := by kernel_rfl
      rw [ho] at h1 h2
      replace h1 := Option.some.inj h1
      replace h2 := Option.some.inj h2
      simp only at h1 h2
      rw [h1] at hK
      have l0 : L 0 = true := hdep 0 (by simp [freDep])
      refine wp_nilN _ h2 ⟨g, 0, none⟩ (hc.v0 l0) ?_
      rw [h1]
      exact hK _ _ (fre_1 hc)
    · have h1 : (freOps[2]?).map (·.dst) = some (some 8) := by kernel_rfl
      have h2 : (freOps[2]?).map (·.op) = some (Op.fieldAddr 57 (Operand.tmp 7) 0) := by kernel_rfl
      rw [ho] at h1 h2
      replace h1 := Option.some.inj h1
      replace h2 := Option.some.inj h2
      simp only at h1 h2
      rw [h1] at hK
      have l1 : L 1 = true := hdep 1 (by simp [freDep])
      refine wp_fieldG _ _ _ h2 _ _ (hc.v1 l1) (show (Instr.fieldAt 57 (.pointer (some ⟨g, 0, none⟩)) 0).run Tryd.prog w = .ok (.pointer (some ⟨g, 0, none⟩)) w from by kernel_rfl) ?_
      rw [h1]
      exact hK _ _ (fre_2 hc)
    · have h1 : (freOps[3]?).map (·.dst) = some (some 9) := by kernel_rfl
      have h2 : (freOps[3]?).map (·.op) = some (Op.fieldAddr 33 (Operand.tmp 8) 0) := by kernel_rfl
      rw [ho] at h1 h2
      replace h1 := Option.some.inj h1
      replace h2 := Option.some.inj h2
      simp only at h1 h2
      rw [h1] at hK
      have l2 : L 2 = true := hdep 2 (by simp [freDep])
      refine wp_fieldG _ _ _ h2 _ _ (hc.v2 l2) (show (Instr.fieldAt 33 (.pointer (some ⟨g, 0, none⟩)) 0).run Tryd.prog w = .ok (.pointer (some ⟨g, 0, none⟩)) w from by kernel_rfl) ?_
      rw [h1]
      exact hK _ _ (fre_3 hc)
    · have h1 : (freOps[4]?).map (·.dst) = some (some 10) := by kernel_rfl
      have h2 : (freOps[4]?).map (·.op) = some (Op.load 31 (Operand.tmp 9)) := by kernel_rfl
      rw [ho] at h1 h2
      replace h1 := Option.some.inj h1
      replace h2 := Option.some.inj h2
      simp only at h1 h2
      rw [h1] at hK
      have l3 : L 3 = true := hdep 3 (by simp [freDep])
      have hcell : w.cell? ⟨g, 0, none⟩ = some (.slice (some ⟨gA, 0, none⟩) nA cA) := by
        cases hq4 : L 16 with
        | false => rw [hc.wz hq4]; exact hG
        | true =>
          cases hq5 : L 17 with
          | false => obtain ⟨_, hw⟩ := hc.w16 hq4 hq5; rw [hw]; exact (World.cell?_of_block (w := W.drew) (a := ⟨g, 0, none⟩) ((al_belowN W.drew _).block g hltg)).trans hG
          | true => cases hq6 : L 19 with
            | true => exact absurd (hc.d19_4 hq6) (by rw [hLi]; decide)
            | false =>
              obtain ⟨g9, c9, _, hx1, hx2, hx3, hx4, _⟩ := hc.w17 hq5 hq6
              exact hx1
      refine wp_loadG _ _ h2 _ _ (hc.v3 l3) (load_slS hcell) ?_
      rw [h1]
      exact hK _ _ (fre_4 hc)
    · have h1 : (freOps[5]?).map (·.dst) = some (some 11) := by kernel_rfl
      have h2 : (freOps[5]?).map (·.op) = some (Op.move (Operand.tmp 1)) := by kernel_rfl
      rw [ho] at h1 h2
      replace h1 := Option.some.inj h1
      replace h2 := Option.some.inj h2
      simp only at h1 h2
      rw [h1] at hK
      refine wp_moveG _ h2 _ ((hf 1 (by decide)).trans a1) ?_
      rw [h1]
      exact hK _ _ (fre_5 hc)
    · have h1 : (freOps[6]?).map (·.dst) = some (some 12) := by kernel_rfl
      have h2 : (freOps[6]?).map (·.op) = some (Op.move (Operand.tmp 0)) := by kernel_rfl
      rw [ho] at h1 h2
      replace h1 := Option.some.inj h1
      replace h2 := Option.some.inj h2
      simp only at h1 h2
      rw [h1] at hK
      refine wp_moveG _ h2 _ ((hf 0 (by decide)).trans a0) ?_
      rw [h1]
      exact hK _ _ (fre_6 hc)
    · have h1 : (freOps[7]?).map (·.dst) = some (some 13) := by kernel_rfl
      have h2 : (freOps[7]?).map (·.op) = some (Op.nilCheck (Operand.tmp 12)) := by kernel_rfl
      rw [ho] at h1 h2
      replace h1 := Option.some.inj h1
      replace h2 := Option.some.inj h2
      simp only at h1 h2
      rw [h1] at hK
      have l6 : L 6 = true := hdep 6 (by simp [freDep])
      refine wp_nilN _ h2 ⟨g, 0, none⟩ (hc.v6 l6) ?_
      rw [h1]
      exact hK _ _ (fre_7 hc)
    · have h1 : (freOps[8]?).map (·.dst) = some (some 14) := by kernel_rfl
      have h2 : (freOps[8]?).map (·.op) = some (Op.fieldAddr 57 (Operand.tmp 13) 0) := by kernel_rfl
      rw [ho] at h1 h2
      replace h1 := Option.some.inj h1
      replace h2 := Option.some.inj h2
      simp only at h1 h2
      rw [h1] at hK
      have l7 : L 7 = true := hdep 7 (by simp [freDep])
      refine wp_fieldG _ _ _ h2 _ _ (hc.v7 l7) (show (Instr.fieldAt 57 (.pointer (some ⟨g, 0, none⟩)) 0).run Tryd.prog w = .ok (.pointer (some ⟨g, 0, none⟩)) w from by kernel_rfl) ?_
      rw [h1]
      exact hK _ _ (fre_8 hc)
    · have h1 : (freOps[9]?).map (·.dst) = some (some 15) := by kernel_rfl
      have h2 : (freOps[9]?).map (·.op) = some (Op.fieldAddr 33 (Operand.tmp 14) 0) := by kernel_rfl
      rw [ho] at h1 h2
      replace h1 := Option.some.inj h1
      replace h2 := Option.some.inj h2
      simp only at h1 h2
      rw [h1] at hK
      have l8 : L 8 = true := hdep 8 (by simp [freDep])
      refine wp_fieldG _ _ _ h2 _ _ (hc.v8 l8) (show (Instr.fieldAt 33 (.pointer (some ⟨g, 0, none⟩)) 0).run Tryd.prog w = .ok (.pointer (some ⟨g, 0, none⟩)) w from by kernel_rfl) ?_
      rw [h1]
      exact hK _ _ (fre_9 hc)
    · have h1 : (freOps[10]?).map (·.dst) = some (some 16) := by kernel_rfl
      have h2 : (freOps[10]?).map (·.op) = some (Op.load 31 (Operand.tmp 15)) := by kernel_rfl
      rw [ho] at h1 h2
      replace h1 := Option.some.inj h1
      replace h2 := Option.some.inj h2
      simp only at h1 h2
      rw [h1] at hK
      have l9 : L 9 = true := hdep 9 (by simp [freDep])
      have hcell : w.cell? ⟨g, 0, none⟩ = some (.slice (some ⟨gA, 0, none⟩) nA cA) := by
        cases hq4 : L 16 with
        | false => rw [hc.wz hq4]; exact hG
        | true =>
          cases hq5 : L 17 with
          | false => obtain ⟨_, hw⟩ := hc.w16 hq4 hq5; rw [hw]; exact (World.cell?_of_block (w := W.drew) (a := ⟨g, 0, none⟩) ((al_belowN W.drew _).block g hltg)).trans hG
          | true => cases hq6 : L 19 with
            | true => exact absurd (hc.d19_10 hq6) (by rw [hLi]; decide)
            | false =>
              obtain ⟨g9, c9, _, hx1, hx2, hx3, hx4, _⟩ := hc.w17 hq5 hq6
              exact hx1
      refine wp_loadG _ _ h2 _ _ (hc.v9 l9) (load_slS hcell) ?_
      rw [h1]
      exact hK _ _ (fre_10 hc)
    · have h1 : (freOps[11]?).map (·.dst) = some (some 17) := by kernel_rfl
      have h2 : (freOps[11]?).map (·.op) = some (Op.move (Operand.tmp 1)) := by kernel_rfl
      rw [ho] at h1 h2
      replace h1 := Option.some.inj h1
      replace h2 := Option.some.inj h2
      simp only at h1 h2
      rw [h1] at hK
      refine wp_moveG _ h2 _ ((hf 1 (by decide)).trans a1) ?_
      rw [h1]
      exact hK _ _ (fre_11 hc)
    · have h1 : (freOps[12]?).map (·.dst) = some (some 18) := by kernel_rfl
      have h2 : (freOps[12]?).map (·.op) = some (Op.indexAddr 31 (Operand.tmp 16) (Operand.tmp 17)) := by kernel_rfl
      rw [ho] at h1 h2
      replace h1 := Option.some.inj h1
      replace h2 := Option.some.inj h2
      simp only at h1 h2
      rw [h1] at hK
      have l10 : L 10 = true := hdep 10 (by simp [freDep])
      have l11 : L 11 = true := hdep 11 (by simp [freDep])
      refine wp_indexSS _ _ h2 gA nA cA fx (hc.v10 l10) (hc.v11 l11) hfn ?_
      rw [h1]
      exact hK _ _ (fre_12 hc)
    · have h1 : (freOps[13]?).map (·.dst) = some (some 19) := by kernel_rfl
      have h2 : (freOps[13]?).map (·.op) = some (Op.load 61 (Operand.tmp 18)) := by kernel_rfl
      rw [ho] at h1 h2
      replace h1 := Option.some.inj h1
      replace h2 := Option.some.inj h2
      simp only at h1 h2
      rw [h1] at hK
      have l12 : L 12 = true := hdep 12 (by simp [freDep])
      have hcell : w.cell? ⟨gA, fx, none⟩ = some (.slice B m cI) := by
        cases hq4 : L 16 with
        | false => rw [hc.wz hq4]; exact hI
        | true =>
          cases hq5 : L 17 with
          | false => obtain ⟨_, hw⟩ := hc.w16 hq4 hq5; rw [hw]; exact (World.cell?_of_block (w := W.drew) (a := ⟨gA, fx, none⟩) ((al_belowN W.drew _).block gA hltA)).trans hI
          | true => exact absurd (hc.d17_13 hq5) (by rw [hLi]; decide)
      refine wp_loadG _ _ h2 _ _ (hc.v12 l12) (load_slE hcell) ?_
      rw [h1]
      exact hK _ _ (fre_13 hc)
    · have h1 : (freOps[14]?).map (·.dst) = some (some 20) := by kernel_rfl
      have h2 : (freOps[14]?).map (·.op) = some (Op.move (Operand.tmp 2)) := by kernel_rfl
      rw [ho] at h1 h2
      replace h1 := Option.some.inj h1
      replace h2 := Option.some.inj h2
      simp only at h1 h2
      rw [h1] at hK
      refine wp_moveG _ h2 _ ((hf 2 (by decide)).trans a2) ?_
      rw [h1]
      exact hK _ _ (fre_14 hc)
    · have h1 : (freOps[15]?).map (·.dst) = some (some 21) := by kernel_rfl
      have h2 : (freOps[15]?).map (·.op) = some (Op.build 63 #[(0, Operand.tmp 20), (2, Operand.const (Value.bool true))]) := by kernel_rfl
      rw [ho] at h1 h2
      replace h1 := Option.some.inj h1
      replace h2 := Option.some.inj h2
      simp only at h1 h2
      rw [h1] at hK
      have l14 : L 14 = true := hdep 14 (by simp [freDep])
      refine wp_mkF _ h2 (tx : Int) (hc.v14 l14) ?_
      rw [h1]
      exact hK _ _ (fre_15 hc)
    · have h1 : (freOps[16]?).map (·.dst) = some (some 22) := by kernel_rfl
      have h2 : (freOps[16]?).map (·.op) = some (Op.buildSlice 61 1 #[(0, Operand.tmp 21)]) := by kernel_rfl
      rw [ho] at h1 h2
      replace h1 := Option.some.inj h1
      replace h2 := Option.some.inj h2
      simp only at h1 h2
      rw [h1] at hK
      have l15 : L 15 = true := hdep 15 (by simp [freDep])
      obtain rfl := hc.wz hLi
      refine wp_bldE 21 h2 ⟨tx, 0#256, true⟩ (show b.eval (.tmp 21) = .agg ((Ed.mk tx (0#256) true).cells).toArray from (hc.v15 l15).trans (by simp [Ed.cells, wd_zero])) ?_
      rw [h1]
      exact hK _ _ (fre_16 hc hLi l15 ⟨rfl, rfl⟩)
    · have h1 : (freOps[17]?).map (·.dst) = some (some 23) := by kernel_rfl
      have h2 : (freOps[17]?).map (·.op) = some (Op.call { callee := Callee.builtin Builtin.append, args := #[Operand.tmp 19, Operand.tmp 22], argTypes := #[61, 61] }) := by kernel_rfl
      rw [ho] at h1 h2
      replace h1 := Option.some.inj h1
      replace h2 := Option.some.inj h2
      simp only at h1 h2
      rw [h1] at hK
      have l13 : L 13 = true := hdep 13 (by simp [freDep])
      have l16 : L 16 = true := hdep 16 (by simp [freDep])
      obtain ⟨hu, hw⟩ := hc.w16 l16 hLi
      subst hw
      have h4 : (freOps[17]?).map (·.type) = some 61 := by kernel_rfl
      rw [ho] at h4
      replace h4 := Option.some.inj h4
      simp only at h4
      refine wp_appE _ _ h2 h4 0 (.slice B m cI) m xs (hc.v13 l13) (hown.alloc _) W.drew.heap.size ⟨tx, 0#256, true⟩ hu (heap_alloc_new W.drew _) hm (Nat.zero_le _) ?_
      intro g9 c9 w2 hown2 hgr hat
      rw [h1]
      exact hK _ _ (fre_17 hc l16 hLi l13 (by obtain ⟨e1, e2, e3, e4, e5⟩ := hR3 g9 c9 w2 hown2 hgr hat; exact ⟨g9, c9, rfl, e1, e2, e3, e4, e5⟩))
    · have h1 : (freOps[18]?).map (·.dst) = some (some 24) := by kernel_rfl
      have h2 : (freOps[18]?).map (·.op) = some (Op.indexAddr 31 (Operand.tmp 10) (Operand.tmp 11)) := by kernel_rfl
      rw [ho] at h1 h2
      replace h1 := Option.some.inj h1
      replace h2 := Option.some.inj h2
      simp only at h1 h2
      rw [h1] at hK
      have l4 : L 4 = true := hdep 4 (by simp [freDep])
      have l5 : L 5 = true := hdep 5 (by simp [freDep])
      refine wp_indexSS _ _ h2 gA nA cA fx (hc.v4 l4) (hc.v5 l5) hfn ?_
      rw [h1]
      exact hK _ _ (fre_18 hc)
    · have h1 : (freOps[19]?).map (·.dst) = some none := by kernel_rfl
      have h2 : (freOps[19]?).map (·.op) = some (Op.store 61 (Operand.tmp 24) (Operand.tmp 23)) := by kernel_rfl
      rw [ho] at h1 h2
      replace h1 := Option.some.inj h1
      replace h2 := Option.some.inj h2
      simp only at h1 h2
      rw [h1] at hK
      have l18 : L 18 = true := hdep 18 (by simp [freDep])
      have l17 : L 17 = true := hdep 17 (by simp [freDep])
      have l4 : L 4 = true := hdep 4 (by simp [freDep])
      have l10 : L 10 = true := hdep 10 (by simp [freDep])
      have l13 : L 13 = true := hdep 13 (by simp [freDep])
      have l15 : L 15 = true := hdep 15 (by simp [freDep])
      have l16 := hc.d17_16 l17
      obtain ⟨g9, c9, hv, hx1, hx2, hx3, hx4, h13⟩ := hc.w17 l17 hLi
      refine wp_stE _ _ h2 ⟨gA, fx, none⟩ (hc.v18 l18) (some ⟨g9, 0, none⟩) (m + 1) c9 hv (.slice B m cI) hx2 hx3 ?_
      rw [h1]
      exact hK _ _ (fre_19 hc l16 l17 hLi l18 l4 l10 h13)
  · rintro L b w hL hd hs hf hc
    have hsz2 : freOps.size = 20 := rfl
    rw [hsz2] at hL
    have e := act_eq (a := A0) (b := b) (freUs (Act.at b)) hd hs hf (by
      intro p hp
      simp only [freUs, List.mem_cons, List.not_mem_nil, or_false] at hp
      rcases hp with rfl | rfl | rfl | rfl | rfl | rfl | rfl | rfl | rfl | rfl | rfl | rfl | rfl | rfl | rfl | rfl | rfl | rfl | rfl <;> rfl) (by rw [show (freUs (Act.at b)).map (·.1) = [6, 7, 8, 9, 10, 11, 12, 13, 14, 15, 16, 17, 18, 19, 20, 21, 22, 23, 24] from rfl]; decide)
    rw [e]
    exact hk (Act.at b) w (hc.w19 (hL 19 (by omega)))
def byrOps : Array Oper := #[{ dst := some 8, op := Op.move (Operand.tmp 0), type := 81, pos := "make.go:60", after := #[], guard := none }, { dst := some 9, op := Op.nilCheck (Operand.tmp 8), type := 0, pos := "make.go:60", after := #[{ on := 0, ground := Ground.data }], guard := none }, { dst := some 10, op := Op.fieldAddr 57 (Operand.tmp 9) 0, type := 0, pos := "make.go:60", after := #[{ on := 1, ground := Ground.data }], guard := none }, { dst := some 11, op := Op.fieldAddr 33 (Operand.tmp 10) 0, type := 0, pos := "make.go:60", after := #[{ on := 2, ground := Ground.data }], guard := none }, { dst := some 12, op := Op.load 31 (Operand.tmp 11), type := 31, pos := "make.go:60", after := #[{ on := 3, ground := Ground.data }], guard := none }, { dst := some 13, op := Op.move (Operand.tmp 1), type := 3, pos := "make.go:60", after := #[], guard := none }, { dst := some 14, op := Op.move (Operand.tmp 0), type := 81, pos := "make.go:60", after := #[], guard := none }, { dst := some 15, op := Op.nilCheck (Operand.tmp 14), type := 0, pos := "make.go:60", after := #[{ on := 6, ground := Ground.data }], guard := none }, { dst := some 16, op := Op.fieldAddr 57 (Operand.tmp 15) 0, type := 0, pos := "make.go:60", after := #[{ on := 7, ground := Ground.data }], guard := none }, { dst := some 17, op := Op.fieldAddr 33 (Operand.tmp 16) 0, type := 0, pos := "make.go:60", after := #[{ on := 8, ground := Ground.data }], guard := none }, { dst := some 18, op := Op.load 31 (Operand.tmp 17), type := 31, pos := "make.go:60", after := #[{ on := 9, ground := Ground.data }], guard := none }, { dst := some 19, op := Op.move (Operand.tmp 1), type := 3, pos := "make.go:60", after := #[], guard := none }, { dst := some 20, op := Op.indexAddr 31 (Operand.tmp 18) (Operand.tmp 19), type := 0, pos := "make.go:60", after := #[{ on := 10, ground := Ground.data }, { on := 11, ground := Ground.data }], guard := none }, { dst := some 21, op := Op.load 61 (Operand.tmp 20), type := 61, pos := "make.go:60", after := #[{ on := 12, ground := Ground.data }], guard := none }, { dst := some 22, op := Op.move (Operand.tmp 2), type := 3, pos := "make.go:60", after := #[], guard := none }, { dst := some 23, op := Op.load 43 (Operand.tmp 7), type := 43, pos := "make.go:60", after := #[], guard := none }, { dst := some 24, op := Op.build 63 #[(0, Operand.tmp 22), (1, Operand.tmp 23)], type := 63, pos := "make.go:60", after := #[{ on := 14, ground := Ground.data }, { on := 15, ground := Ground.data }], guard := none }, { dst := some 25, op := Op.buildSlice 61 1 #[(0, Operand.tmp 24)], type := 61, pos := "make.go:60", after := #[{ on := 16, ground := Ground.data }], guard := none }, { dst := some 26, op := Op.call { callee := Callee.builtin Builtin.append, args := #[Operand.tmp 21, Operand.tmp 25], argTypes := #[61, 61] }, type := 61, pos := "make.go:60", after := #[{ on := 13, ground := Ground.data }, { on := 17, ground := Ground.data }], guard := none }, { dst := some 27, op := Op.indexAddr 31 (Operand.tmp 12) (Operand.tmp 13), type := 0, pos := "make.go:60", after := #[{ on := 4, ground := Ground.data }, { on := 5, ground := Ground.data }, { on := 0, ground := Ground.phase }, { on := 1, ground := Ground.phase }, { on := 2, ground := Ground.phase }, { on := 3, ground := Ground.phase }, { on := 4, ground := Ground.phase }, { on := 5, ground := Ground.phase }, { on := 6, ground := Ground.phase }, { on := 7, ground := Ground.phase }, { on := 8, ground := Ground.phase }, { on := 9, ground := Ground.phase }, { on := 10, ground := Ground.phase }, { on := 11, ground := Ground.phase }, { on := 12, ground := Ground.phase }, { on := 13, ground := Ground.phase }, { on := 14, ground := Ground.phase }, { on := 15, ground := Ground.phase }, { on := 16, ground := Ground.phase }, { on := 17, ground := Ground.phase }, { on := 18, ground := Ground.phase }], guard := none }, { dst := none, op := Op.store 61 (Operand.tmp 27) (Operand.tmp 26), type := 0, pos := "make.go:60", after := #[{ on := 19, ground := Ground.data }, { on := 18, ground := Ground.data }, { on := 18, ground := Ground.chain }, { on := 0, ground := Ground.phase }, { on := 1, ground := Ground.phase }, { on := 2, ground := Ground.phase }, { on := 3, ground := Ground.phase }, { on := 4, ground := Ground.phase }, { on := 5, ground := Ground.phase }, { on := 6, ground := Ground.phase }, { on := 7, ground := Ground.phase }, { on := 8, ground := Ground.phase }, { on := 9, ground := Ground.phase }, { on := 10, ground := Ground.phase }, { on := 11, ground := Ground.phase }, { on := 12, ground := Ground.phase }, { on := 13, ground := Ground.phase }, { on := 14, ground := Ground.phase }, { on := 15, ground := Ground.phase }, { on := 16, ground := Ground.phase }, { on := 17, ground := Ground.phase }, { on := 18, ground := Ground.phase }], guard := none }]
def byrDep : Nat → List Nat := fun i => match i with | 1 => [0] | 2 => [1] | 3 => [2] | 4 => [3] | 7 => [6] | 8 => [7] | 9 => [8] | 10 => [9] | 12 => [10, 11] | 13 => [12] | 16 => [14, 15] | 17 => [16] | 18 => [13, 17] | 19 => [4, 5] | 20 => [19, 18, 4, 10, 15, 13, 16] | _ => []
structure byrC (g : Nat) (gA : Nat) (nA : Nat) (cA : Nat) (fx : Nat) (tx : Nat) (m : Nat) (cI : Nat) (B : Option Addr) (gs : Nat) (q : BS) (W1 : World) (R17 : Value → World → Prop) (R18 : Value → World → Prop) (R20 : World → Prop) (L : Nat → Bool) (f : Nat → Value) (w : World) : Prop where
  v0 : L 0 = true → f 8 = .pointer (some ⟨g, 0, none⟩)
  v1 : L 1 = true → f 9 = .pointer (some ⟨g, 0, none⟩)
  v2 : L 2 = true → f 10 = .pointer (some ⟨g, 0, none⟩)
  v3 : L 3 = true → f 11 = .pointer (some ⟨g, 0, none⟩)
  v4 : L 4 = true → f 12 = .slice (some ⟨gA, 0, none⟩) nA cA
  v5 : L 5 = true → f 13 = .int .i64 (fx : Int)
  v6 : L 6 = true → f 14 = .pointer (some ⟨g, 0, none⟩)
  v7 : L 7 = true → f 15 = .pointer (some ⟨g, 0, none⟩)
  v8 : L 8 = true → f 16 = .pointer (some ⟨g, 0, none⟩)
  v9 : L 9 = true → f 17 = .pointer (some ⟨g, 0, none⟩)
  v10 : L 10 = true → f 18 = .slice (some ⟨gA, 0, none⟩) nA cA
  v11 : L 11 = true → f 19 = .int .i64 (fx : Int)
  v12 : L 12 = true → f 20 = .pointer (some ⟨gA, fx, none⟩)
  v13 : L 13 = true → f 21 = .slice B m cI
  v14 : L 14 = true → f 22 = .int .i64 (tx : Int)
  v15 : L 15 = true → f 23 = .agg (setL q).toArray
  v16 : L 16 = true → f 24 = .agg #[.int .i64 (tx : Int), .int .u64 ((wd q 0 : Nat) : Int), .int .u64 ((wd q 1 : Nat) : Int), .int .u64 ((wd q 2 : Nat) : Int), .int .u64 ((wd q 3 : Nat) : Int), .bool false]
  v19 : L 19 = true → f 27 = .pointer (some ⟨gA, fx, none⟩)
  wz : L 17 = false → w = W1
  w17 : L 17 = true → L 18 = false → R17 (f 25) w
  w18 : L 18 = true → L 20 = false → R18 (f 26) w
  w20 : L 20 = true → R20 w
  d18_17 : L 18 = true → L 17 = true
  d20_18 : L 20 = true → L 18 = true
  d17_16 : L 17 = true → L 16 = true
  d18_13 : L 18 = true → L 13 = true
  d20_19 : L 20 = true → L 19 = true
  d20_4 : L 20 = true → L 4 = true
  d20_10 : L 20 = true → L 10 = true
  d20_15 : L 20 = true → L 15 = true
theorem byr_0 {g : Nat} {gA : Nat} {nA : Nat} {cA : Nat} {fx : Nat} {tx : Nat} {m : Nat} {cI : Nat} {B : Option Addr} {gs : Nat} {q : BS} {W1 : World} {R17 : Value → World → Prop} {R18 : Value → World → Prop} {R20 : World → Prop} {L : Nat → Bool} {f : Nat → Value} {w : World} (h : byrC g gA nA cA fx tx m cI B gs q W1 R17 R18 R20 L f w) : byrC g gA nA cA fx tx m cI B gs q W1 R17 R18 R20 (fun k => if k = 0 then true else L k) (fun t => if (some 8 : Option Nat) = some t then (.pointer (some ⟨g, 0, none⟩)) else f t) w where
  v0 := fun _ => by simp
  v1 := by simpa using h.v1
  v2 := by simpa using h.v2
  v3 := by simpa using h.v3
  v4 := by simpa using h.v4
  v5 := by simpa using h.v5
  v6 := by simpa using h.v6
  v7 := by simpa using h.v7
  v8 := by simpa using h.v8
  v9 := by simpa using h.v9
  v10 := by simpa using h.v10
  v11 := by simpa using h.v11
  v12 := by simpa using h.v12
  v13 := by simpa using h.v13
  v14 := by simpa using h.v14
  v15 := by simpa using h.v15
  v16 := by simpa using h.v16
  v19 := by simpa using h.v19
  wz := by simpa using h.wz
  w17 := by simpa using h.w17
  w18 := by simpa using h.w18
  w20 := by simpa using h.w20
  d18_17 := by simpa using h.d18_17
  d20_18 := by simpa using h.d20_18
  d17_16 := by simpa using h.d17_16
  d18_13 := by simpa using h.d18_13
  d20_19 := by simpa using h.d20_19
  d20_4 := by simpa using h.d20_4
  d20_10 := by simpa using h.d20_10
  d20_15 := by simpa using h.d20_15
theorem byr_1 {g : Nat} {gA : Nat} {nA : Nat} {cA : Nat} {fx : Nat} {tx : Nat} {m : Nat} {cI : Nat} {B : Option Addr} {gs : Nat} {q : BS} {W1 : World} {R17 : Value → World → Prop} {R18 : Value → World → Prop} {R20 : World → Prop} {L : Nat → Bool} {f : Nat → Value} {w : World} (h : byrC g gA nA cA fx tx m cI B gs q W1 R17 R18 R20 L f w) : byrC g gA nA cA fx tx m cI B gs q W1 R17 R18 R20 (fun k => if k = 1 then true else L k) (fun t => if (some 9 : Option Nat) = some t then (.pointer (some ⟨g, 0, none⟩)) else f t) w where
  v0 := by simpa using h.v0
  v1 := fun _ => by simp
  v2 := by simpa using h.v2
  v3 := by simpa using h.v3
  v4 := by simpa using h.v4
  v5 := by simpa using h.v5
  v6 := by simpa using h.v6
  v7 := by simpa using h.v7
  v8 := by simpa using h.v8
  v9 := by simpa using h.v9
  v10 := by simpa using h.v10
  v11 := by simpa using h.v11
  v12 := by simpa using h.v12
  v13 := by simpa using h.v13
  v14 := by simpa using h.v14
  v15 := by simpa using h.v15
  v16 := by simpa using h.v16
  v19 := by simpa using h.v19
  wz := by simpa using h.wz
  w17 := by simpa using h.w17
  w18 := by simpa using h.w18
  w20 := by simpa using h.w20
  d18_17 := by simpa using h.d18_17
  d20_18 := by simpa using h.d20_18
  d17_16 := by simpa using h.d17_16
  d18_13 := by simpa using h.d18_13
  d20_19 := by simpa using h.d20_19
  d20_4 := by simpa using h.d20_4
  d20_10 := by simpa using h.d20_10
  d20_15 := by simpa using h.d20_15
theorem byr_2 {g : Nat} {gA : Nat} {nA : Nat} {cA : Nat} {fx : Nat} {tx : Nat} {m : Nat} {cI : Nat} {B : Option Addr} {gs : Nat} {q : BS} {W1 : World} {R17 : Value → World → Prop} {R18 : Value → World → Prop} {R20 : World → Prop} {L : Nat → Bool} {f : Nat → Value} {w : World} (h : byrC g gA nA cA fx tx m cI B gs q W1 R17 R18 R20 L f w) : byrC g gA nA cA fx tx m cI B gs q W1 R17 R18 R20 (fun k => if k = 2 then true else L k) (fun t => if (some 10 : Option Nat) = some t then (.pointer (some ⟨g, 0, none⟩)) else f t) w where
  v0 := by simpa using h.v0
  v1 := by simpa using h.v1
  v2 := fun _ => by simp
  v3 := by simpa using h.v3
  v4 := by simpa using h.v4
  v5 := by simpa using h.v5
  v6 := by simpa using h.v6
  v7 := by simpa using h.v7
  v8 := by simpa using h.v8
  v9 := by simpa using h.v9
  v10 := by simpa using h.v10
  v11 := by simpa using h.v11
  v12 := by simpa using h.v12
  v13 := by simpa using h.v13
  v14 := by simpa using h.v14
  v15 := by simpa using h.v15
  v16 := by simpa using h.v16
  v19 := by simpa using h.v19
  wz := by simpa using h.wz
  w17 := by simpa using h.w17
  w18 := by simpa using h.w18
  w20 := by simpa using h.w20
  d18_17 := by simpa using h.d18_17
  d20_18 := by simpa using h.d20_18
  d17_16 := by simpa using h.d17_16
  d18_13 := by simpa using h.d18_13
  d20_19 := by simpa using h.d20_19
  d20_4 := by simpa using h.d20_4
  d20_10 := by simpa using h.d20_10
  d20_15 := by simpa using h.d20_15
theorem byr_3 {g : Nat} {gA : Nat} {nA : Nat} {cA : Nat} {fx : Nat} {tx : Nat} {m : Nat} {cI : Nat} {B : Option Addr} {gs : Nat} {q : BS} {W1 : World} {R17 : Value → World → Prop} {R18 : Value → World → Prop} {R20 : World → Prop} {L : Nat → Bool} {f : Nat → Value} {w : World} (h : byrC g gA nA cA fx tx m cI B gs q W1 R17 R18 R20 L f w) : byrC g gA nA cA fx tx m cI B gs q W1 R17 R18 R20 (fun k => if k = 3 then true else L k) (fun t => if (some 11 : Option Nat) = some t then (.pointer (some ⟨g, 0, none⟩)) else f t) w where
  v0 := by simpa using h.v0
  v1 := by simpa using h.v1
  v2 := by simpa using h.v2
  v3 := fun _ => by simp
  v4 := by simpa using h.v4
  v5 := by simpa using h.v5
  v6 := by simpa using h.v6
  v7 := by simpa using h.v7
  v8 := by simpa using h.v8
  v9 := by simpa using h.v9
  v10 := by simpa using h.v10
  v11 := by simpa using h.v11
  v12 := by simpa using h.v12
  v13 := by simpa using h.v13
  v14 := by simpa using h.v14
  v15 := by simpa using h.v15
  v16 := by simpa using h.v16
  v19 := by simpa using h.v19
  wz := by simpa using h.wz
  w17 := by simpa using h.w17
  w18 := by simpa using h.w18
  w20 := by simpa using h.w20
  d18_17 := by simpa using h.d18_17
  d20_18 := by simpa using h.d20_18
  d17_16 := by simpa using h.d17_16
  d18_13 := by simpa using h.d18_13
  d20_19 := by simpa using h.d20_19
  d20_4 := by simpa using h.d20_4
  d20_10 := by simpa using h.d20_10
  d20_15 := by simpa using h.d20_15
theorem byr_4 {g : Nat} {gA : Nat} {nA : Nat} {cA : Nat} {fx : Nat} {tx : Nat} {m : Nat} {cI : Nat} {B : Option Addr} {gs : Nat} {q : BS} {W1 : World} {R17 : Value → World → Prop} {R18 : Value → World → Prop} {R20 : World → Prop} {L : Nat → Bool} {f : Nat → Value} {w : World} (h : byrC g gA nA cA fx tx m cI B gs q W1 R17 R18 R20 L f w) : byrC g gA nA cA fx tx m cI B gs q W1 R17 R18 R20 (fun k => if k = 4 then true else L k) (fun t => if (some 12 : Option Nat) = some t then (.slice (some ⟨gA, 0, none⟩) nA cA) else f t) w where
  v0 := by simpa using h.v0
  v1 := by simpa using h.v1
  v2 := by simpa using h.v2
  v3 := by simpa using h.v3
  v4 := fun _ => by simp
  v5 := by simpa using h.v5
  v6 := by simpa using h.v6
  v7 := by simpa using h.v7
  v8 := by simpa using h.v8
  v9 := by simpa using h.v9
  v10 := by simpa using h.v10
  v11 := by simpa using h.v11
  v12 := by simpa using h.v12
  v13 := by simpa using h.v13
  v14 := by simpa using h.v14
  v15 := by simpa using h.v15
  v16 := by simpa using h.v16
  v19 := by simpa using h.v19
  wz := by simpa using h.wz
  w17 := by simpa using h.w17
  w18 := by simpa using h.w18
  w20 := by simpa using h.w20
  d18_17 := by simpa using h.d18_17
  d20_18 := by simpa using h.d20_18
  d17_16 := by simpa using h.d17_16
  d18_13 := by simpa using h.d18_13
  d20_19 := by simpa using h.d20_19
  d20_4 := fun _ => by simp
  d20_10 := by simpa using h.d20_10
  d20_15 := by simpa using h.d20_15
theorem byr_5 {g : Nat} {gA : Nat} {nA : Nat} {cA : Nat} {fx : Nat} {tx : Nat} {m : Nat} {cI : Nat} {B : Option Addr} {gs : Nat} {q : BS} {W1 : World} {R17 : Value → World → Prop} {R18 : Value → World → Prop} {R20 : World → Prop} {L : Nat → Bool} {f : Nat → Value} {w : World} (h : byrC g gA nA cA fx tx m cI B gs q W1 R17 R18 R20 L f w) : byrC g gA nA cA fx tx m cI B gs q W1 R17 R18 R20 (fun k => if k = 5 then true else L k) (fun t => if (some 13 : Option Nat) = some t then (.int .i64 (fx : Int)) else f t) w where
  v0 := by simpa using h.v0
  v1 := by simpa using h.v1
  v2 := by simpa using h.v2
  v3 := by simpa using h.v3
  v4 := by simpa using h.v4
  v5 := fun _ => by simp
  v6 := by simpa using h.v6
  v7 := by simpa using h.v7
  v8 := by simpa using h.v8
  v9 := by simpa using h.v9
  v10 := by simpa using h.v10
  v11 := by simpa using h.v11
  v12 := by simpa using h.v12
  v13 := by simpa using h.v13
  v14 := by simpa using h.v14
  v15 := by simpa using h.v15
  v16 := by simpa using h.v16
  v19 := by simpa using h.v19
  wz := by simpa using h.wz
  w17 := by simpa using h.w17
  w18 := by simpa using h.w18
  w20 := by simpa using h.w20
  d18_17 := by simpa using h.d18_17
  d20_18 := by simpa using h.d20_18
  d17_16 := by simpa using h.d17_16
  d18_13 := by simpa using h.d18_13
  d20_19 := by simpa using h.d20_19
  d20_4 := by simpa using h.d20_4
  d20_10 := by simpa using h.d20_10
  d20_15 := by simpa using h.d20_15
theorem byr_6 {g : Nat} {gA : Nat} {nA : Nat} {cA : Nat} {fx : Nat} {tx : Nat} {m : Nat} {cI : Nat} {B : Option Addr} {gs : Nat} {q : BS} {W1 : World} {R17 : Value → World → Prop} {R18 : Value → World → Prop} {R20 : World → Prop} {L : Nat → Bool} {f : Nat → Value} {w : World} (h : byrC g gA nA cA fx tx m cI B gs q W1 R17 R18 R20 L f w) : byrC g gA nA cA fx tx m cI B gs q W1 R17 R18 R20 (fun k => if k = 6 then true else L k) (fun t => if (some 14 : Option Nat) = some t then (.pointer (some ⟨g, 0, none⟩)) else f t) w where
  v0 := by simpa using h.v0
  v1 := by simpa using h.v1
  v2 := by simpa using h.v2
  v3 := by simpa using h.v3
  v4 := by simpa using h.v4
  v5 := by simpa using h.v5
  v6 := fun _ => by simp
  v7 := by simpa using h.v7
  v8 := by simpa using h.v8
  v9 := by simpa using h.v9
  v10 := by simpa using h.v10
  v11 := by simpa using h.v11
  v12 := by simpa using h.v12
  v13 := by simpa using h.v13
  v14 := by simpa using h.v14
  v15 := by simpa using h.v15
  v16 := by simpa using h.v16
  v19 := by simpa using h.v19
  wz := by simpa using h.wz
  w17 := by simpa using h.w17
  w18 := by simpa using h.w18
  w20 := by simpa using h.w20
  d18_17 := by simpa using h.d18_17
  d20_18 := by simpa using h.d20_18
  d17_16 := by simpa using h.d17_16
  d18_13 := by simpa using h.d18_13
  d20_19 := by simpa using h.d20_19
  d20_4 := by simpa using h.d20_4
  d20_10 := by simpa using h.d20_10
  d20_15 := by simpa using h.d20_15
theorem byr_7 {g : Nat} {gA : Nat} {nA : Nat} {cA : Nat} {fx : Nat} {tx : Nat} {m : Nat} {cI : Nat} {B : Option Addr} {gs : Nat} {q : BS} {W1 : World} {R17 : Value → World → Prop} {R18 : Value → World → Prop} {R20 : World → Prop} {L : Nat → Bool} {f : Nat → Value} {w : World} (h : byrC g gA nA cA fx tx m cI B gs q W1 R17 R18 R20 L f w) : byrC g gA nA cA fx tx m cI B gs q W1 R17 R18 R20 (fun k => if k = 7 then true else L k) (fun t => if (some 15 : Option Nat) = some t then (.pointer (some ⟨g, 0, none⟩)) else f t) w where
  v0 := by simpa using h.v0
  v1 := by simpa using h.v1
  v2 := by simpa using h.v2
  v3 := by simpa using h.v3
  v4 := by simpa using h.v4
  v5 := by simpa using h.v5
  v6 := by simpa using h.v6
  v7 := fun _ => by simp
  v8 := by simpa using h.v8
  v9 := by simpa using h.v9
  v10 := by simpa using h.v10
  v11 := by simpa using h.v11
  v12 := by simpa using h.v12
  v13 := by simpa using h.v13
  v14 := by simpa using h.v14
  v15 := by simpa using h.v15
  v16 := by simpa using h.v16
  v19 := by simpa using h.v19
  wz := by simpa using h.wz
  w17 := by simpa using h.w17
  w18 := by simpa using h.w18
  w20 := by simpa using h.w20
  d18_17 := by simpa using h.d18_17
  d20_18 := by simpa using h.d20_18
  d17_16 := by simpa using h.d17_16
  d18_13 := by simpa using h.d18_13
  d20_19 := by simpa using h.d20_19
  d20_4 := by simpa using h.d20_4
  d20_10 := by simpa using h.d20_10
  d20_15 := by simpa using h.d20_15
theorem byr_8 {g : Nat} {gA : Nat} {nA : Nat} {cA : Nat} {fx : Nat} {tx : Nat} {m : Nat} {cI : Nat} {B : Option Addr} {gs : Nat} {q : BS} {W1 : World} {R17 : Value → World → Prop} {R18 : Value → World → Prop} {R20 : World → Prop} {L : Nat → Bool} {f : Nat → Value} {w : World} (h : byrC g gA nA cA fx tx m cI B gs q W1 R17 R18 R20 L f w) : byrC g gA nA cA fx tx m cI B gs q W1 R17 R18 R20 (fun k => if k = 8 then true else L k) (fun t => if (some 16 : Option Nat) = some t then (.pointer (some ⟨g, 0, none⟩)) else f t) w where
  v0 := by simpa using h.v0
  v1 := by simpa using h.v1
  v2 := by simpa using h.v2
  v3 := by simpa using h.v3
  v4 := by simpa using h.v4
  v5 := by simpa using h.v5
  v6 := by simpa using h.v6
  v7 := by simpa using h.v7
  v8 := fun _ => by simp
  v9 := by simpa using h.v9
  v10 := by simpa using h.v10
  v11 := by simpa using h.v11
  v12 := by simpa using h.v12
  v13 := by simpa using h.v13
  v14 := by simpa using h.v14
  v15 := by simpa using h.v15
  v16 := by simpa using h.v16
  v19 := by simpa using h.v19
  wz := by simpa using h.wz
  w17 := by simpa using h.w17
  w18 := by simpa using h.w18
  w20 := by simpa using h.w20
  d18_17 := by simpa using h.d18_17
  d20_18 := by simpa using h.d20_18
  d17_16 := by simpa using h.d17_16
  d18_13 := by simpa using h.d18_13
  d20_19 := by simpa using h.d20_19
  d20_4 := by simpa using h.d20_4
  d20_10 := by simpa using h.d20_10
  d20_15 := by simpa using h.d20_15
theorem byr_9 {g : Nat} {gA : Nat} {nA : Nat} {cA : Nat} {fx : Nat} {tx : Nat} {m : Nat} {cI : Nat} {B : Option Addr} {gs : Nat} {q : BS} {W1 : World} {R17 : Value → World → Prop} {R18 : Value → World → Prop} {R20 : World → Prop} {L : Nat → Bool} {f : Nat → Value} {w : World} (h : byrC g gA nA cA fx tx m cI B gs q W1 R17 R18 R20 L f w) : byrC g gA nA cA fx tx m cI B gs q W1 R17 R18 R20 (fun k => if k = 9 then true else L k) (fun t => if (some 17 : Option Nat) = some t then (.pointer (some ⟨g, 0, none⟩)) else f t) w where
  v0 := by simpa using h.v0
  v1 := by simpa using h.v1
  v2 := by simpa using h.v2
  v3 := by simpa using h.v3
  v4 := by simpa using h.v4
  v5 := by simpa using h.v5
  v6 := by simpa using h.v6
  v7 := by simpa using h.v7
  v8 := by simpa using h.v8
  v9 := fun _ => by simp
  v10 := by simpa using h.v10
  v11 := by simpa using h.v11
  v12 := by simpa using h.v12
  v13 := by simpa using h.v13
  v14 := by simpa using h.v14
  v15 := by simpa using h.v15
  v16 := by simpa using h.v16
  v19 := by simpa using h.v19
  wz := by simpa using h.wz
  w17 := by simpa using h.w17
  w18 := by simpa using h.w18
  w20 := by simpa using h.w20
  d18_17 := by simpa using h.d18_17
  d20_18 := by simpa using h.d20_18
  d17_16 := by simpa using h.d17_16
  d18_13 := by simpa using h.d18_13
  d20_19 := by simpa using h.d20_19
  d20_4 := by simpa using h.d20_4
  d20_10 := by simpa using h.d20_10
  d20_15 := by simpa using h.d20_15
theorem byr_10 {g : Nat} {gA : Nat} {nA : Nat} {cA : Nat} {fx : Nat} {tx : Nat} {m : Nat} {cI : Nat} {B : Option Addr} {gs : Nat} {q : BS} {W1 : World} {R17 : Value → World → Prop} {R18 : Value → World → Prop} {R20 : World → Prop} {L : Nat → Bool} {f : Nat → Value} {w : World} (h : byrC g gA nA cA fx tx m cI B gs q W1 R17 R18 R20 L f w) : byrC g gA nA cA fx tx m cI B gs q W1 R17 R18 R20 (fun k => if k = 10 then true else L k) (fun t => if (some 18 : Option Nat) = some t then (.slice (some ⟨gA, 0, none⟩) nA cA) else f t) w where
  v0 := by simpa using h.v0
  v1 := by simpa using h.v1
  v2 := by simpa using h.v2
  v3 := by simpa using h.v3
  v4 := by simpa using h.v4
  v5 := by simpa using h.v5
  v6 := by simpa using h.v6
  v7 := by simpa using h.v7
  v8 := by simpa using h.v8
  v9 := by simpa using h.v9
  v10 := fun _ => by simp
  v11 := by simpa using h.v11
  v12 := by simpa using h.v12
  v13 := by simpa using h.v13
  v14 := by simpa using h.v14
  v15 := by simpa using h.v15
  v16 := by simpa using h.v16
  v19 := by simpa using h.v19
  wz := by simpa using h.wz
  w17 := by simpa using h.w17
  w18 := by simpa using h.w18
  w20 := by simpa using h.w20
  d18_17 := by simpa using h.d18_17
  d20_18 := by simpa using h.d20_18
  d17_16 := by simpa using h.d17_16
  d18_13 := by simpa using h.d18_13
  d20_19 := by simpa using h.d20_19
  d20_4 := by simpa using h.d20_4
  d20_10 := fun _ => by simp
  d20_15 := by simpa using h.d20_15
theorem byr_11 {g : Nat} {gA : Nat} {nA : Nat} {cA : Nat} {fx : Nat} {tx : Nat} {m : Nat} {cI : Nat} {B : Option Addr} {gs : Nat} {q : BS} {W1 : World} {R17 : Value → World → Prop} {R18 : Value → World → Prop} {R20 : World → Prop} {L : Nat → Bool} {f : Nat → Value} {w : World} (h : byrC g gA nA cA fx tx m cI B gs q W1 R17 R18 R20 L f w) : byrC g gA nA cA fx tx m cI B gs q W1 R17 R18 R20 (fun k => if k = 11 then true else L k) (fun t => if (some 19 : Option Nat) = some t then (.int .i64 (fx : Int)) else f t) w where
  v0 := by simpa using h.v0
  v1 := by simpa using h.v1
  v2 := by simpa using h.v2
  v3 := by simpa using h.v3
  v4 := by simpa using h.v4
  v5 := by simpa using h.v5
  v6 := by simpa using h.v6
  v7 := by simpa using h.v7
  v8 := by simpa using h.v8
  v9 := by simpa using h.v9
  v10 := by simpa using h.v10
  v11 := fun _ => by simp
  v12 := by simpa using h.v12
  v13 := by simpa using h.v13
  v14 := by simpa using h.v14
  v15 := by simpa using h.v15
  v16 := by simpa using h.v16
  v19 := by simpa using h.v19
  wz := by simpa using h.wz
  w17 := by simpa using h.w17
  w18 := by simpa using h.w18
  w20 := by simpa using h.w20
  d18_17 := by simpa using h.d18_17
  d20_18 := by simpa using h.d20_18
  d17_16 := by simpa using h.d17_16
  d18_13 := by simpa using h.d18_13
  d20_19 := by simpa using h.d20_19
  d20_4 := by simpa using h.d20_4
  d20_10 := by simpa using h.d20_10
  d20_15 := by simpa using h.d20_15
theorem byr_12 {g : Nat} {gA : Nat} {nA : Nat} {cA : Nat} {fx : Nat} {tx : Nat} {m : Nat} {cI : Nat} {B : Option Addr} {gs : Nat} {q : BS} {W1 : World} {R17 : Value → World → Prop} {R18 : Value → World → Prop} {R20 : World → Prop} {L : Nat → Bool} {f : Nat → Value} {w : World} (h : byrC g gA nA cA fx tx m cI B gs q W1 R17 R18 R20 L f w) : byrC g gA nA cA fx tx m cI B gs q W1 R17 R18 R20 (fun k => if k = 12 then true else L k) (fun t => if (some 20 : Option Nat) = some t then (.pointer (some ⟨gA, fx, none⟩)) else f t) w where
  v0 := by simpa using h.v0
  v1 := by simpa using h.v1
  v2 := by simpa using h.v2
  v3 := by simpa using h.v3
  v4 := by simpa using h.v4
  v5 := by simpa using h.v5
  v6 := by simpa using h.v6
  v7 := by simpa using h.v7
  v8 := by simpa using h.v8
  v9 := by simpa using h.v9
  v10 := by simpa using h.v10
  v11 := by simpa using h.v11
  v12 := fun _ => by simp
  v13 := by simpa using h.v13
  v14 := by simpa using h.v14
  v15 := by simpa using h.v15
  v16 := by simpa using h.v16
  v19 := by simpa using h.v19
  wz := by simpa using h.wz
  w17 := by simpa using h.w17
  w18 := by simpa using h.w18
  w20 := by simpa using h.w20
  d18_17 := by simpa using h.d18_17
  d20_18 := by simpa using h.d20_18
  d17_16 := by simpa using h.d17_16
  d18_13 := by simpa using h.d18_13
  d20_19 := by simpa using h.d20_19
  d20_4 := by simpa using h.d20_4
  d20_10 := by simpa using h.d20_10
  d20_15 := by simpa using h.d20_15
theorem byr_13 {g : Nat} {gA : Nat} {nA : Nat} {cA : Nat} {fx : Nat} {tx : Nat} {m : Nat} {cI : Nat} {B : Option Addr} {gs : Nat} {q : BS} {W1 : World} {R17 : Value → World → Prop} {R18 : Value → World → Prop} {R20 : World → Prop} {L : Nat → Bool} {f : Nat → Value} {w : World} (h : byrC g gA nA cA fx tx m cI B gs q W1 R17 R18 R20 L f w) : byrC g gA nA cA fx tx m cI B gs q W1 R17 R18 R20 (fun k => if k = 13 then true else L k) (fun t => if (some 21 : Option Nat) = some t then (.slice B m cI) else f t) w where
  v0 := by simpa using h.v0
  v1 := by simpa using h.v1
  v2 := by simpa using h.v2
  v3 := by simpa using h.v3
  v4 := by simpa using h.v4
  v5 := by simpa using h.v5
  v6 := by simpa using h.v6
  v7 := by simpa using h.v7
  v8 := by simpa using h.v8
  v9 := by simpa using h.v9
  v10 := by simpa using h.v10
  v11 := by simpa using h.v11
  v12 := by simpa using h.v12
  v13 := fun _ => by simp
  v14 := by simpa using h.v14
  v15 := by simpa using h.v15
  v16 := by simpa using h.v16
  v19 := by simpa using h.v19
  wz := by simpa using h.wz
  w17 := by simpa using h.w17
  w18 := by simpa using h.w18
  w20 := by simpa using h.w20
  d18_17 := by simpa using h.d18_17
  d20_18 := by simpa using h.d20_18
  d17_16 := by simpa using h.d17_16
  d18_13 := fun _ => by simp
  d20_19 := by simpa using h.d20_19
  d20_4 := by simpa using h.d20_4
  d20_10 := by simpa using h.d20_10
  d20_15 := by simpa using h.d20_15
theorem byr_14 {g : Nat} {gA : Nat} {nA : Nat} {cA : Nat} {fx : Nat} {tx : Nat} {m : Nat} {cI : Nat} {B : Option Addr} {gs : Nat} {q : BS} {W1 : World} {R17 : Value → World → Prop} {R18 : Value → World → Prop} {R20 : World → Prop} {L : Nat → Bool} {f : Nat → Value} {w : World} (h : byrC g gA nA cA fx tx m cI B gs q W1 R17 R18 R20 L f w) : byrC g gA nA cA fx tx m cI B gs q W1 R17 R18 R20 (fun k => if k = 14 then true else L k) (fun t => if (some 22 : Option Nat) = some t then (.int .i64 (tx : Int)) else f t) w where
  v0 := by simpa using h.v0
  v1 := by simpa using h.v1
  v2 := by simpa using h.v2
  v3 := by simpa using h.v3
  v4 := by simpa using h.v4
  v5 := by simpa using h.v5
  v6 := by simpa using h.v6
  v7 := by simpa using h.v7
  v8 := by simpa using h.v8
  v9 := by simpa using h.v9
  v10 := by simpa using h.v10
  v11 := by simpa using h.v11
  v12 := by simpa using h.v12
  v13 := by simpa using h.v13
  v14 := fun _ => by simp
  v15 := by simpa using h.v15
  v16 := by simpa using h.v16
  v19 := by simpa using h.v19
  wz := by simpa using h.wz
  w17 := by simpa using h.w17
  w18 := by simpa using h.w18
  w20 := by simpa using h.w20
  d18_17 := by simpa using h.d18_17
  d20_18 := by simpa using h.d20_18
  d17_16 := by simpa using h.d17_16
  d18_13 := by simpa using h.d18_13
  d20_19 := by simpa using h.d20_19
  d20_4 := by simpa using h.d20_4
  d20_10 := by simpa using h.d20_10
  d20_15 := by simpa using h.d20_15
theorem byr_15 {g : Nat} {gA : Nat} {nA : Nat} {cA : Nat} {fx : Nat} {tx : Nat} {m : Nat} {cI : Nat} {B : Option Addr} {gs : Nat} {q : BS} {W1 : World} {R17 : Value → World → Prop} {R18 : Value → World → Prop} {R20 : World → Prop} {L : Nat → Bool} {f : Nat → Value} {w : World} (h : byrC g gA nA cA fx tx m cI B gs q W1 R17 R18 R20 L f w) : byrC g gA nA cA fx tx m cI B gs q W1 R17 R18 R20 (fun k => if k = 15 then true else L k) (fun t => if (some 23 : Option Nat) = some t then (.agg (setL q).toArray) else f t) w where
  v0 := by simpa using h.v0
  v1 := by simpa using h.v1
  v2 := by simpa using h.v2
  v3 := by simpa using h.v3
  v4 := by simpa using h.v4
  v5 := by simpa using h.v5
  v6 := by simpa using h.v6
  v7 := by simpa using h.v7
  v8 := by simpa using h.v8
  v9 := by simpa using h.v9
  v10 := by simpa using h.v10
  v11 := by simpa using h.v11
  v12 := by simpa using h.v12
  v13 := by simpa using h.v13
  v14 := by simpa using h.v14
  v15 := fun _ => by simp
  v16 := by simpa using h.v16
  v19 := by simpa using h.v19
  wz := by simpa using h.wz
  w17 := by simpa using h.w17
  w18 := by simpa using h.w18
  w20 := by simpa using h.w20
  d18_17 := by simpa using h.d18_17
  d20_18 := by simpa using h.d20_18
  d17_16 := by simpa using h.d17_16
  d18_13 := by simpa using h.d18_13
  d20_19 := by simpa using h.d20_19
  d20_4 := by simpa using h.d20_4
  d20_10 := by simpa using h.d20_10
  d20_15 := fun _ => by simp
theorem byr_16 {g : Nat} {gA : Nat} {nA : Nat} {cA : Nat} {fx : Nat} {tx : Nat} {m : Nat} {cI : Nat} {B : Option Addr} {gs : Nat} {q : BS} {W1 : World} {R17 : Value → World → Prop} {R18 : Value → World → Prop} {R20 : World → Prop} {L : Nat → Bool} {f : Nat → Value} {w : World} (h : byrC g gA nA cA fx tx m cI B gs q W1 R17 R18 R20 L f w) : byrC g gA nA cA fx tx m cI B gs q W1 R17 R18 R20 (fun k => if k = 16 then true else L k) (fun t => if (some 24 : Option Nat) = some t then (.agg #[.int .i64 (tx : Int), .int .u64 ((wd q 0 : Nat) : Int), .int .u64 ((wd q 1 : Nat) : Int), .int .u64 ((wd q 2 : Nat) : Int), .int .u64 ((wd q 3 : Nat) : Int), .bool false]) else f t) w where
  v0 := by simpa using h.v0
  v1 := by simpa using h.v1
  v2 := by simpa using h.v2
  v3 := by simpa using h.v3
  v4 := by simpa using h.v4
  v5 := by simpa using h.v5
  v6 := by simpa using h.v6
  v7 := by simpa using h.v7
  v8 := by simpa using h.v8
  v9 := by simpa using h.v9
  v10 := by simpa using h.v10
  v11 := by simpa using h.v11
  v12 := by simpa using h.v12
  v13 := by simpa using h.v13
  v14 := by simpa using h.v14
  v15 := by simpa using h.v15
  v16 := fun _ => by simp
  v19 := by simpa using h.v19
  wz := by simpa using h.wz
  w17 := by simpa using h.w17
  w18 := by simpa using h.w18
  w20 := by simpa using h.w20
  d18_17 := by simpa using h.d18_17
  d20_18 := by simpa using h.d20_18
  d17_16 := fun _ => by simp
  d18_13 := by simpa using h.d18_13
  d20_19 := by simpa using h.d20_19
  d20_4 := by simpa using h.d20_4
  d20_10 := by simpa using h.d20_10
  d20_15 := by simpa using h.d20_15
theorem byr_17 {g : Nat} {gA : Nat} {nA : Nat} {cA : Nat} {fx : Nat} {tx : Nat} {m : Nat} {cI : Nat} {B : Option Addr} {gs : Nat} {q : BS} {W1 : World} {R17 : Value → World → Prop} {R18 : Value → World → Prop} {R20 : World → Prop} {L : Nat → Bool} {f : Nat → Value} {w : World} {v : Value} {w2 : World} (h : byrC g gA nA cA fx tx m cI B gs q W1 R17 R18 R20 L f w) (h17 : L 17 = false) (h16 : L 16 = true) (hp : R17 v w2) : byrC g gA nA cA fx tx m cI B gs q W1 R17 R18 R20 (fun k => if k = 17 then true else L k) (fun t => if (some 25 : Option Nat) = some t then v else f t) w2 := by
  have h18 : L 18 = false := by cases hh : L 18 with | false => rfl | true => exact absurd (h.d18_17 hh) (by rw [h17]; decide)
  have h20 : L 20 = false := by cases hh : L 20 with | false => rfl | true => exact absurd (h.d20_18 hh) (by rw [h18]; decide)
  constructor
  · simpa using h.v0
  · simpa using h.v1
  · simpa using h.v2
  · simpa using h.v3
  · simpa using h.v4
  · simpa using h.v5
  · simpa using h.v6
  · simpa using h.v7
  · simpa using h.v8
  · simpa using h.v9
  · simpa using h.v10
  · simpa using h.v11
  · simpa using h.v12
  · simpa using h.v13
  · simpa using h.v14
  · simpa using h.v15
  · simpa using h.v16
  · simpa using h.v19
  · intro hh; simp at hh
  · intro _ _; simpa using hp
  · intro hh _; simp [h18] at hh
  · intro hh; simp [h20] at hh
  · intro _; simp
  · simpa using h.d20_18
  · intro _; simpa using h16
  · simpa using h.d18_13
  · simpa using h.d20_19
  · simpa using h.d20_4
  · simpa using h.d20_10
  · simpa using h.d20_15
theorem byr_18 {g : Nat} {gA : Nat} {nA : Nat} {cA : Nat} {fx : Nat} {tx : Nat} {m : Nat} {cI : Nat} {B : Option Addr} {gs : Nat} {q : BS} {W1 : World} {R17 : Value → World → Prop} {R18 : Value → World → Prop} {R20 : World → Prop} {L : Nat → Bool} {f : Nat → Value} {w : World} {v : Value} {w2 : World} (h : byrC g gA nA cA fx tx m cI B gs q W1 R17 R18 R20 L f w) (h17 : L 17 = true) (h18 : L 18 = false) (h13 : L 13 = true) (hp : R18 v w2) : byrC g gA nA cA fx tx m cI B gs q W1 R17 R18 R20 (fun k => if k = 18 then true else L k) (fun t => if (some 26 : Option Nat) = some t then v else f t) w2 := by
  have h20 : L 20 = false := by cases hh : L 20 with | false => rfl | true => exact absurd (h.d20_18 hh) (by rw [h18]; decide)
  constructor
  · simpa using h.v0
  · simpa using h.v1
  · simpa using h.v2
  · simpa using h.v3
  · simpa using h.v4
  · simpa using h.v5
  · simpa using h.v6
  · simpa using h.v7
  · simpa using h.v8
  · simpa using h.v9
  · simpa using h.v10
  · simpa using h.v11
  · simpa using h.v12
  · simpa using h.v13
  · simpa using h.v14
  · simpa using h.v15
  · simpa using h.v16
  · simpa using h.v19
  · intro hh; simp [h17] at hh
  · intro _ hh; simp at hh
  · intro _ _; simpa using hp
  · intro hh; simp [h20] at hh
  · intro _; simpa using h17
  · intro _; simp
  · simpa using h.d17_16
  · intro _; simpa using h13
  · simpa using h.d20_19
  · simpa using h.d20_4
  · simpa using h.d20_10
  · simpa using h.d20_15
theorem byr_19 {g : Nat} {gA : Nat} {nA : Nat} {cA : Nat} {fx : Nat} {tx : Nat} {m : Nat} {cI : Nat} {B : Option Addr} {gs : Nat} {q : BS} {W1 : World} {R17 : Value → World → Prop} {R18 : Value → World → Prop} {R20 : World → Prop} {L : Nat → Bool} {f : Nat → Value} {w : World} (h : byrC g gA nA cA fx tx m cI B gs q W1 R17 R18 R20 L f w) : byrC g gA nA cA fx tx m cI B gs q W1 R17 R18 R20 (fun k => if k = 19 then true else L k) (fun t => if (some 27 : Option Nat) = some t then (.pointer (some ⟨gA, fx, none⟩)) else f t) w where
  v0 := by simpa using h.v0
  v1 := by simpa using h.v1
  v2 := by simpa using h.v2
  v3 := by simpa using h.v3
  v4 := by simpa using h.v4
  v5 := by simpa using h.v5
  v6 := by simpa using h.v6
  v7 := by simpa using h.v7
  v8 := by simpa using h.v8
  v9 := by simpa using h.v9
  v10 := by simpa using h.v10
  v11 := by simpa using h.v11
  v12 := by simpa using h.v12
  v13 := by simpa using h.v13
  v14 := by simpa using h.v14
  v15 := by simpa using h.v15
  v16 := by simpa using h.v16
  v19 := fun _ => by simp
  wz := by simpa using h.wz
  w17 := by simpa using h.w17
  w18 := by simpa using h.w18
  w20 := by simpa using h.w20
  d18_17 := by simpa using h.d18_17
  d20_18 := by simpa using h.d20_18
  d17_16 := by simpa using h.d17_16
  d18_13 := by simpa using h.d18_13
  d20_19 := fun _ => by simp
  d20_4 := by simpa using h.d20_4
  d20_10 := by simpa using h.d20_10
  d20_15 := by simpa using h.d20_15
theorem byr_20 {g : Nat} {gA : Nat} {nA : Nat} {cA : Nat} {fx : Nat} {tx : Nat} {m : Nat} {cI : Nat} {B : Option Addr} {gs : Nat} {q : BS} {W1 : World} {R17 : Value → World → Prop} {R18 : Value → World → Prop} {R20 : World → Prop} {L : Nat → Bool} {f : Nat → Value} {w : World} {v : Value} {w2 : World} (h : byrC g gA nA cA fx tx m cI B gs q W1 R17 R18 R20 L f w) (h17 : L 17 = true) (h18 : L 18 = true) (h20 : L 20 = false) (h19 : L 19 = true) (h4 : L 4 = true) (h10 : L 10 = true) (h15 : L 15 = true) (hp : R20 w2) : byrC g gA nA cA fx tx m cI B gs q W1 R17 R18 R20 (fun k => if k = 20 then true else L k) (fun t => if (none : Option Nat) = some t then v else f t) w2 := by
  constructor
  · simpa using h.v0
  · simpa using h.v1
  · simpa using h.v2
  · simpa using h.v3
  · simpa using h.v4
  · simpa using h.v5
  · simpa using h.v6
  · simpa using h.v7
  · simpa using h.v8
  · simpa using h.v9
  · simpa using h.v10
  · simpa using h.v11
  · simpa using h.v12
  · simpa using h.v13
  · simpa using h.v14
  · simpa using h.v15
  · simpa using h.v16
  · simpa using h.v19
  · intro hh; simp [h17] at hh
  · intro _ hh; simp [h18] at hh
  · intro _ hh; simp at hh
  · intro _; simpa using hp
  · simpa using h.d18_17
  · intro _; simpa using h18
  · simpa using h.d17_16
  · simpa using h.d18_13
  · intro _; simpa using h19
  · intro _; simpa using h4
  · intro _; simpa using h10
  · intro _; simpa using h15
def byrUs (f : Nat → Value) : List (Nat × Value) := [(8, f 8), (9, f 9), (10, f 10), (11, f 11), (12, f 12), (13, f 13), (14, f 14), (15, f 15), (16, f 16), (17, f 17), (18, f 18), (19, f 19), (20, f 20), (21, f 21), (22, f 22), (23, f 23), (24, f 24), (25, f 25), (26, f 26), (27, f 27)]
set_option maxRecDepth 20000 in
set_option maxHeartbeats 2000000 in
theorem byr_reg {g gA nA cA fx tx m cI : Nat} {B : Option Addr} {gs : Nat} {q : BS} {W : World} {xs : List Value} {R4 : World → Prop} {A0 : Act} {Q : Exit → Act → World → Prop} {id : Nat} (a0 : Act.at A0 0 = .pointer (some ⟨g, 0, none⟩)) (a1 : Act.at A0 1 = .int .i64 (fx : Int)) (a2 : Act.at A0 2 = .int .i64 (tx : Int)) (a7 : Act.at A0 7 = .pointer (some ⟨gs, 0, none⟩)) (hsz : 28 ≤ A0.tmps.size) (hfn : fx < nA) (hm : m ≤ 1048576) (hG : W.drew.cell? ⟨g, 0, none⟩ = some (.slice (some ⟨gA, 0, none⟩) nA cA)) (hI : W.drew.cell? ⟨gA, fx, none⟩ = some (.slice B m cI)) (hltg : g < W.drew.heap.size) (hltA : gA < W.drew.heap.size) (hQ : W.drew.heap[gs]? = some (.cells (setL q).toArray 43 (0, 0))) (hlts : gs < W.drew.heap.size)
    (hown : W.drew.ownsRow 0 63 6 (.slice B m cI) m xs)
    (hR3 : ∀ g9 c9 w', w'.ownsRow 0 63 6 (.slice (some ⟨g9, 0, none⟩) (m + 1) c9) (m + 1) (xs ++ (Ed.mk tx q false).cells) → (W.drew.alloc (.cells ((Ed.mk tx q false).cells).toArray 63)).grownBy w' (Value.slice B m cI).ownBlock → ((Value.slice B m cI).ownBlock = some g9 ∨ g9 = (W.drew.alloc (.cells ((Ed.mk tx q false).cells).toArray 63)).heap.size) → w'.cell? ⟨g, 0, none⟩ = some (.slice (some ⟨gA, 0, none⟩) nA cA) ∧ w'.cell? ⟨gA, fx, none⟩ = some (.slice B m cI) ∧ w'.frozen? ⟨gA, fx, none⟩ = false ∧ w'.heap[gs]? = some (.cells (setL q).toArray 43 (0, 0)) ∧ R4 (w'.setCell ⟨gA, fx, none⟩ (.slice (some ⟨g9, 0, none⟩) (m + 1) c9)))
    (hk : ∀ (f : Nat → Value) w', R4 w' → Q .normal ⟨(byrUs f).foldl (fun A p => A.setIfInBounds p.1 p.2) A0.tmps, A0.defers⟩ w') :
    (Code.region id byrOps true).wp Tryd.prog Q A0 W := by
  refine wp_region_fun (by kernel_rfl) (fun L f_ w => byrC g gA nA cA fx tx m cI B gs q W.drew (fun u w => u = .slice (some ⟨W.drew.heap.size, 0, none⟩) 1 1 ∧ w = W.drew.alloc (.cells ((Ed.mk tx q false).cells).toArray 63)) (fun u w => ∃ g9 c9, u = .slice (some ⟨g9, 0, none⟩) (m + 1) c9 ∧ w.cell? ⟨g, 0, none⟩ = some (.slice (some ⟨gA, 0, none⟩) nA cA) ∧ w.cell? ⟨gA, fx, none⟩ = some (.slice B m cI) ∧ w.frozen? ⟨gA, fx, none⟩ = false ∧ w.heap[gs]? = some (.cells (setL q).toArray 43 (0, 0)) ∧ R4 (w.setCell ⟨gA, fx, none⟩ (.slice (some ⟨g9, 0, none⟩) (m + 1) c9))) R4 L f_ w) [8, 9, 10, 11, 12, 13, 14, 15, 16, 17, 18, 19, 20, 21, 22, 23, 24, 25, 26, 27] (wf_ops2 (by kernel_rfl)) (fun i o ho u hu => ?_) ?_ ?_ ?_
  · have := ops_dst [8, 9, 10, 11, 12, 13, 14, 15, 16, 17, 18, 19, 20, 21, 22, 23, 24, 25, 26, 27] 28 (by kernel_rfl) i o ho u hu
    exact ⟨this.1, Nat.lt_of_lt_of_le this.2 hsz⟩
  · have hs : byrOps.size = 21 := rfl
    rw [hs]
    constructor <;> first | exact (fun _ => rfl) | (intro h; simp at h) | (intro h h2; simp at h)
  · rintro L i o ho hLi haf b w hf hc K hK
    have hdep := ops_deps byrDep (by kernel_rfl) ho haf
    clear haf
    have hs : byrOps.size = 21 := rfl
    have hlt : i < 21 := hs ▸ (Array.getElem?_eq_some_iff.1 ho).1
    have hcases : i = 0 ∨ i = 1 ∨ i = 2 ∨ i = 3 ∨ i = 4 ∨ i = 5 ∨ i = 6 ∨ i = 7 ∨ i = 8 ∨ i = 9 ∨ i = 10 ∨ i = 11 ∨ i = 12 ∨ i = 13 ∨ i = 14 ∨ i = 15 ∨ i = 16 ∨ i = 17 ∨ i = 18 ∨ i = 19 ∨ i = 20 := by omega
    rcases hcases with rfl | rfl | rfl | rfl | rfl | rfl | rfl | rfl | rfl | rfl | rfl | rfl | rfl | rfl | rfl | rfl | rfl | rfl | rfl | rfl | rfl
    · have h1 : (byrOps[0]?).map (·.dst) = some (some 8) := by kernel_rfl
      have h2 : (byrOps[0]?).map (·.op) = some (Op.move (Operand.tmp 0)) := by kernel_rfl
      rw [ho] at h1 h2
      replace h1 := Option.some.inj h1
      replace h2 := Option.some.inj h2
      simp only at h1 h2
      rw [h1] at hK
      refine wp_moveG _ h2 _ ((hf 0 (by decide)).trans a0) ?_
      rw [h1]
      exact hK _ _ (byr_0 hc)
    · have h1 : (byrOps[1]?).map (·.dst) = some (some 9) := by kernel_rfl
      have h2 : (byrOps[1]?).map (·.op) = some (Op.nilCheck (Operand.tmp 8)) := by kernel_rfl
      rw [ho] at h1 h2
      replace h1 := Option.some.inj h1
      replace h2 := Option.some.inj h2
      simp only at h1 h2
      rw [h1] at hK
      have l0 : L 0 = true := hdep 0 (by simp [byrDep])
      refine wp_nilN _ h2 ⟨g, 0, none⟩ (hc.v0 l0) ?_
      rw [h1]
      exact hK _ _ (byr_1 hc)
    · have h1 : (byrOps[2]?).map (·.dst) = some (some 10) := by kernel_rfl
      have h2 : (byrOps[2]?).map (·.op) = some (Op.fieldAddr 57 (Operand.tmp 9) 0) := by kernel_rfl
      rw [ho] at h1 h2
      replace h1 := Option.some.inj h1
      replace h2 := Option.some.inj h2
      simp only at h1 h2
      rw [h1] at hK
      have l1 : L 1 = true := hdep 1 (by simp [byrDep])
      refine wp_fieldG _ _ _ h2 _ _ (hc.v1 l1) (show (Instr.fieldAt 57 (.pointer (some ⟨g, 0, none⟩)) 0).run Tryd.prog w = .ok (.pointer (some ⟨g, 0, none⟩)) w from by kernel_rfl) ?_
      rw [h1]
      exact hK _ _ (byr_2 hc)
    · have h1 : (byrOps[3]?).map (·.dst) = some (some 11) := by kernel_rfl
      have h2 : (byrOps[3]?).map (·.op) = some (Op.fieldAddr 33 (Operand.tmp 10) 0) := by kernel_rfl
      rw [ho] at h1 h2
      replace h1 := Option.some.inj h1
      replace h2 := Option.some.inj h2
      simp only at h1 h2
      rw [h1] at hK
      have l2 : L 2 = true := hdep 2 (by simp [byrDep])
      refine wp_fieldG _ _ _ h2 _ _ (hc.v2 l2) (show (Instr.fieldAt 33 (.pointer (some ⟨g, 0, none⟩)) 0).run Tryd.prog w = .ok (.pointer (some ⟨g, 0, none⟩)) w from by kernel_rfl) ?_
      rw [h1]
      exact hK _ _ (byr_3 hc)
    · have h1 : (byrOps[4]?).map (·.dst) = some (some 12) := by kernel_rfl
      have h2 : (byrOps[4]?).map (·.op) = some (Op.load 31 (Operand.tmp 11)) := by kernel_rfl
      rw [ho] at h1 h2
      replace h1 := Option.some.inj h1
      replace h2 := Option.some.inj h2
      simp only at h1 h2
      rw [h1] at hK
      have l3 : L 3 = true := hdep 3 (by simp [byrDep])
      have hcell : w.cell? ⟨g, 0, none⟩ = some (.slice (some ⟨gA, 0, none⟩) nA cA) := by
        cases hq4 : L 17 with
        | false => rw [hc.wz hq4]; exact hG
        | true =>
          cases hq5 : L 18 with
          | false => obtain ⟨_, hw⟩ := hc.w17 hq4 hq5; rw [hw]; exact (World.cell?_of_block (w := W.drew) (a := ⟨g, 0, none⟩) ((al_belowN W.drew _).block g hltg)).trans hG
          | true => cases hq6 : L 20 with
            | true => exact absurd (hc.d20_4 hq6) (by rw [hLi]; decide)
            | false =>
              obtain ⟨g9, c9, _, hx1, hx2, hx3, hx4, _⟩ := hc.w18 hq5 hq6
              exact hx1
      refine wp_loadG _ _ h2 _ _ (hc.v3 l3) (load_slS hcell) ?_
      rw [h1]
      exact hK _ _ (byr_4 hc)
    · have h1 : (byrOps[5]?).map (·.dst) = some (some 13) := by kernel_rfl
      have h2 : (byrOps[5]?).map (·.op) = some (Op.move (Operand.tmp 1)) := by kernel_rfl
      rw [ho] at h1 h2
      replace h1 := Option.some.inj h1
      replace h2 := Option.some.inj h2
      simp only at h1 h2
      rw [h1] at hK
      refine wp_moveG _ h2 _ ((hf 1 (by decide)).trans a1) ?_
      rw [h1]
      exact hK _ _ (byr_5 hc)
    · have h1 : (byrOps[6]?).map (·.dst) = some (some 14) := by kernel_rfl
      have h2 : (byrOps[6]?).map (·.op) = some (Op.move (Operand.tmp 0)) := by kernel_rfl
      rw [ho] at h1 h2
      replace h1 := Option.some.inj h1
      replace h2 := Option.some.inj h2
      simp only at h1 h2
      rw [h1] at hK
      refine wp_moveG _ h2 _ ((hf 0 (by decide)).trans a0) ?_
      rw [h1]
      exact hK _ _ (byr_6 hc)
    · have h1 : (byrOps[7]?).map (·.dst) = some (some 15) := by kernel_rfl
      have h2 : (byrOps[7]?).map (·.op) = some (Op.nilCheck (Operand.tmp 14)) := by kernel_rfl
      rw [ho] at h1 h2
      replace h1 := Option.some.inj h1
      replace h2 := Option.some.inj h2
      simp only at h1 h2
      rw [h1] at hK
      have l6 : L 6 = true := hdep 6 (by simp [byrDep])
      refine wp_nilN _ h2 ⟨g, 0, none⟩ (hc.v6 l6) ?_
      rw [h1]
      exact hK _ _ (byr_7 hc)
    · have h1 : (byrOps[8]?).map (·.dst) = some (some 16) := by kernel_rfl
      have h2 : (byrOps[8]?).map (·.op) = some (Op.fieldAddr 57 (Operand.tmp 15) 0) := by kernel_rfl
      rw [ho] at h1 h2
      replace h1 := Option.some.inj h1
      replace h2 := Option.some.inj h2
      simp only at h1 h2
      rw [h1] at hK
      have l7 : L 7 = true := hdep 7 (by simp [byrDep])
      refine wp_fieldG _ _ _ h2 _ _ (hc.v7 l7) (show (Instr.fieldAt 57 (.pointer (some ⟨g, 0, none⟩)) 0).run Tryd.prog w = .ok (.pointer (some ⟨g, 0, none⟩)) w from by kernel_rfl) ?_
      rw [h1]
      exact hK _ _ (byr_8 hc)
    · have h1 : (byrOps[9]?).map (·.dst) = some (some 17) := by kernel_rfl
      have h2 : (byrOps[9]?).map (·.op) = some (Op.fieldAddr 33 (Operand.tmp 16) 0) := by kernel_rfl
      rw [ho] at h1 h2
      replace h1 := Option.some.inj h1
      replace h2 := Option.some.inj h2
      simp only at h1 h2
      rw [h1] at hK
      have l8 : L 8 = true := hdep 8 (by simp [byrDep])
      refine wp_fieldG _ _ _ h2 _ _ (hc.v8 l8) (show (Instr.fieldAt 33 (.pointer (some ⟨g, 0, none⟩)) 0).run Tryd.prog w = .ok (.pointer (some ⟨g, 0, none⟩)) w from by kernel_rfl) ?_
      rw [h1]
      exact hK _ _ (byr_9 hc)
    · have h1 : (byrOps[10]?).map (·.dst) = some (some 18) := by kernel_rfl
      have h2 : (byrOps[10]?).map (·.op) = some (Op.load 31 (Operand.tmp 17)) := by kernel_rfl
      rw [ho] at h1 h2
      replace h1 := Option.some.inj h1
      replace h2 := Option.some.inj h2
      simp only at h1 h2
      rw [h1] at hK
      have l9 : L 9 = true := hdep 9 (by simp [byrDep])
      have hcell : w.cell? ⟨g, 0, none⟩ = some (.slice (some ⟨gA, 0, none⟩) nA cA) := by
        cases hq4 : L 17 with
        | false => rw [hc.wz hq4]; exact hG
        | true =>
          cases hq5 : L 18 with
          | false => obtain ⟨_, hw⟩ := hc.w17 hq4 hq5; rw [hw]; exact (World.cell?_of_block (w := W.drew) (a := ⟨g, 0, none⟩) ((al_belowN W.drew _).block g hltg)).trans hG
          | true => cases hq6 : L 20 with
            | true => exact absurd (hc.d20_10 hq6) (by rw [hLi]; decide)
            | false =>
              obtain ⟨g9, c9, _, hx1, hx2, hx3, hx4, _⟩ := hc.w18 hq5 hq6
              exact hx1
      refine wp_loadG _ _ h2 _ _ (hc.v9 l9) (load_slS hcell) ?_
      rw [h1]
      exact hK _ _ (byr_10 hc)
    · have h1 : (byrOps[11]?).map (·.dst) = some (some 19) := by kernel_rfl
      have h2 : (byrOps[11]?).map (·.op) = some (Op.move (Operand.tmp 1)) := by kernel_rfl
      rw [ho] at h1 h2
      replace h1 := Option.some.inj h1
      replace h2 := Option.some.inj h2
      simp only at h1 h2
      rw [h1] at hK
      refine wp_moveG _ h2 _ ((hf 1 (by decide)).trans a1) ?_
      rw [h1]
      exact hK _ _ (byr_11 hc)
    · have h1 : (byrOps[12]?).map (·.dst) = some (some 20) := by kernel_rfl
      have h2 : (byrOps[12]?).map (·.op) = some (Op.indexAddr 31 (Operand.tmp 18) (Operand.tmp 19)) := by kernel_rfl
      rw [ho] at h1 h2
      replace h1 := Option.some.inj h1
      replace h2 := Option.some.inj h2
      simp only at h1 h2
      rw [h1] at hK
      have l10 : L 10 = true := hdep 10 (by simp [byrDep])
      have l11 : L 11 = true := hdep 11 (by simp [byrDep])
      refine wp_indexSS _ _ h2 gA nA cA fx (hc.v10 l10) (hc.v11 l11) hfn ?_
      rw [h1]
      exact hK _ _ (byr_12 hc)
    · have h1 : (byrOps[13]?).map (·.dst) = some (some 21) := by kernel_rfl
      have h2 : (byrOps[13]?).map (·.op) = some (Op.load 61 (Operand.tmp 20)) := by kernel_rfl
      rw [ho] at h1 h2
      replace h1 := Option.some.inj h1
      replace h2 := Option.some.inj h2
      simp only at h1 h2
      rw [h1] at hK
      have l12 : L 12 = true := hdep 12 (by simp [byrDep])
      have hcell : w.cell? ⟨gA, fx, none⟩ = some (.slice B m cI) := by
        cases hq4 : L 17 with
        | false => rw [hc.wz hq4]; exact hI
        | true =>
          cases hq5 : L 18 with
          | false => obtain ⟨_, hw⟩ := hc.w17 hq4 hq5; rw [hw]; exact (World.cell?_of_block (w := W.drew) (a := ⟨gA, fx, none⟩) ((al_belowN W.drew _).block gA hltA)).trans hI
          | true => exact absurd (hc.d18_13 hq5) (by rw [hLi]; decide)
      refine wp_loadG _ _ h2 _ _ (hc.v12 l12) (load_slE hcell) ?_
      rw [h1]
      exact hK _ _ (byr_13 hc)
    · have h1 : (byrOps[14]?).map (·.dst) = some (some 22) := by kernel_rfl
      have h2 : (byrOps[14]?).map (·.op) = some (Op.move (Operand.tmp 2)) := by kernel_rfl
      rw [ho] at h1 h2
      replace h1 := Option.some.inj h1
      replace h2 := Option.some.inj h2
      simp only at h1 h2
      rw [h1] at hK
      refine wp_moveG _ h2 _ ((hf 2 (by decide)).trans a2) ?_
      rw [h1]
      exact hK _ _ (byr_14 hc)
    · have h1 : (byrOps[15]?).map (·.dst) = some (some 23) := by kernel_rfl
      have h2 : (byrOps[15]?).map (·.op) = some (Op.load 43 (Operand.tmp 7)) := by kernel_rfl
      rw [ho] at h1 h2
      replace h1 := Option.some.inj h1
      replace h2 := Option.some.inj h2
      simp only at h1 h2
      rw [h1] at hK
      have hcell : w.heap[gs]? = some (.cells (setL q).toArray 43 (0, 0)) := by
        cases hq4 : L 17 with
        | false => rw [hc.wz hq4]; exact hQ
        | true =>
          cases hq5 : L 18 with
          | false => obtain ⟨_, hw⟩ := hc.w17 hq4 hq5; rw [hw]; exact ((al_belowN W.drew _).block gs hlts).trans hQ
          | true => cases hq6 : L 20 with
            | true => exact absurd (hc.d20_15 hq6) (by rw [hLi]; decide)
            | false =>
              obtain ⟨g9, c9, _, hx1, hx2, hx3, hx4, _⟩ := hc.w18 hq5 hq6
              exact hx4
      refine wp_load_row 43 (.tmp 7) h2 gs ((hf 7 (by decide)).trans a7) 43 (setL q).toArray (0, 0) _ hcell Tryd.underlying43 rfl (set_infoN q) ?_
      rw [h1]
      exact hK _ _ (byr_15 hc)
    · have h1 : (byrOps[16]?).map (·.dst) = some (some 24) := by kernel_rfl
      have h2 : (byrOps[16]?).map (·.op) = some (Op.build 63 #[(0, Operand.tmp 22), (1, Operand.tmp 23)]) := by kernel_rfl
      rw [ho] at h1 h2
      replace h1 := Option.some.inj h1
      replace h2 := Option.some.inj h2
      simp only at h1 h2
      rw [h1] at hK
      have l14 : L 14 = true := hdep 14 (by simp [byrDep])
      have l15 : L 15 = true := hdep 15 (by simp [byrDep])
      refine wp_mkB _ _ h2 (tx : Int) _ _ _ _ (hc.v14 l14) (hc.v15 l15) ?_
      rw [h1]
      exact hK _ _ (byr_16 hc)
    · have h1 : (byrOps[17]?).map (·.dst) = some (some 25) := by kernel_rfl
      have h2 : (byrOps[17]?).map (·.op) = some (Op.buildSlice 61 1 #[(0, Operand.tmp 24)]) := by kernel_rfl
      rw [ho] at h1 h2
      replace h1 := Option.some.inj h1
      replace h2 := Option.some.inj h2
      simp only at h1 h2
      rw [h1] at hK
      have l16 : L 16 = true := hdep 16 (by simp [byrDep])
      obtain rfl := hc.wz hLi
      refine wp_bldE 24 h2 ⟨tx, q, false⟩ (show b.eval (.tmp 24) = .agg ((Ed.mk tx q false).cells).toArray from (hc.v16 l16).trans (by simp [Ed.cells, wd_zero])) ?_
      rw [h1]
      exact hK _ _ (byr_17 hc hLi l16 ⟨rfl, rfl⟩)
    · have h1 : (byrOps[18]?).map (·.dst) = some (some 26) := by kernel_rfl
      have h2 : (byrOps[18]?).map (·.op) = some (Op.call { callee := Callee.builtin Builtin.append, args := #[Operand.tmp 21, Operand.tmp 25], argTypes := #[61, 61] }) := by kernel_rfl
      rw [ho] at h1 h2
      replace h1 := Option.some.inj h1
      replace h2 := Option.some.inj h2
      simp only at h1 h2
      rw [h1] at hK
      have l13 : L 13 = true := hdep 13 (by simp [byrDep])
      have l17 : L 17 = true := hdep 17 (by simp [byrDep])
      obtain ⟨hu, hw⟩ := hc.w17 l17 hLi
      subst hw
      have h4 : (byrOps[18]?).map (·.type) = some 61 := by kernel_rfl
      rw [ho] at h4
      replace h4 := Option.some.inj h4
      simp only at h4
      refine wp_appE _ _ h2 h4 0 (.slice B m cI) m xs (hc.v13 l13) (hown.alloc _) W.drew.heap.size ⟨tx, q, false⟩ hu (heap_alloc_new W.drew _) hm (Nat.zero_le _) ?_
      intro g9 c9 w2 hown2 hgr hat
      rw [h1]
      exact hK _ _ (byr_18 hc l17 hLi l13 (by obtain ⟨e1, e2, e3, e4, e5⟩ := hR3 g9 c9 w2 hown2 hgr hat; exact ⟨g9, c9, rfl, e1, e2, e3, e4, e5⟩))
    · have h1 : (byrOps[19]?).map (·.dst) = some (some 27) := by kernel_rfl
      have h2 : (byrOps[19]?).map (·.op) = some (Op.indexAddr 31 (Operand.tmp 12) (Operand.tmp 13)) := by kernel_rfl
      rw [ho] at h1 h2
      replace h1 := Option.some.inj h1
      replace h2 := Option.some.inj h2
      simp only at h1 h2
      rw [h1] at hK
      have l4 : L 4 = true := hdep 4 (by simp [byrDep])
      have l5 : L 5 = true := hdep 5 (by simp [byrDep])
      refine wp_indexSS _ _ h2 gA nA cA fx (hc.v4 l4) (hc.v5 l5) hfn ?_
      rw [h1]
      exact hK _ _ (byr_19 hc)
    · have h1 : (byrOps[20]?).map (·.dst) = some none := by kernel_rfl
      have h2 : (byrOps[20]?).map (·.op) = some (Op.store 61 (Operand.tmp 27) (Operand.tmp 26)) := by kernel_rfl
      rw [ho] at h1 h2
      replace h1 := Option.some.inj h1
      replace h2 := Option.some.inj h2
      simp only at h1 h2
      rw [h1] at hK
      have l19 : L 19 = true := hdep 19 (by simp [byrDep])
      have l18 : L 18 = true := hdep 18 (by simp [byrDep])
      have l4 : L 4 = true := hdep 4 (by simp [byrDep])
      have l10 : L 10 = true := hdep 10 (by simp [byrDep])
      have l15 : L 15 = true := hdep 15 (by simp [byrDep])
      have l13 : L 13 = true := hdep 13 (by simp [byrDep])
      have l16 : L 16 = true := hdep 16 (by simp [byrDep])
      have l17 := hc.d18_17 l18
      obtain ⟨g9, c9, hv, hx1, hx2, hx3, hx4, h13⟩ := hc.w18 l18 hLi
      refine wp_stE _ _ h2 ⟨gA, fx, none⟩ (hc.v19 l19) (some ⟨g9, 0, none⟩) (m + 1) c9 hv (.slice B m cI) hx2 hx3 ?_
      rw [h1]
      exact hK _ _ (byr_20 hc l17 l18 hLi l19 l4 l10 l15 h13)
  · rintro L b w hL hd hs hf hc
    have hsz2 : byrOps.size = 21 := rfl
    rw [hsz2] at hL
    have e := act_eq (a := A0) (b := b) (byrUs (Act.at b)) hd hs hf (by
      intro p hp
      simp only [byrUs, List.mem_cons, List.not_mem_nil, or_false] at hp
      rcases hp with rfl | rfl | rfl | rfl | rfl | rfl | rfl | rfl | rfl | rfl | rfl | rfl | rfl | rfl | rfl | rfl | rfl | rfl | rfl | rfl <;> rfl) (by rw [show (byrUs (Act.at b)).map (·.1) = [8, 9, 10, 11, 12, 13, 14, 15, 16, 17, 18, 19, 20, 21, 22, 23, 24, 25, 26, 27] from rfl]; decide)
    rw [e]
    exact hk (Act.at b) w (hc.w20 (hL 20 (by omega)))
end Go.Proofs.YtoiegkejkahfgaaDoor
