/- parse: lists that grow by what a call answers, in open order. -/
import Derived.Test.YtfcccfplmdjndaaGreatPaH
import Derived.Test.YtfcccfplmdjndaaGreatSpXb
namespace Go.Proofs.YtfcccfplmdjndaaGreat
set_option linter.unusedSimpArgs false
set_option linter.unusedVariables false
open Go.RowKit

theorem info_fld : (Tryz.prog.info? 64).map (fun i => (i.zero, i.size, i.bytes)) = some (some (.agg #[.string ⟨#[]⟩, .int .i64 0, .int .i64 0, .string ⟨#[]⟩, .string ⟨#[]⟩]), 5, 64) := by kernel_rfl
theorem ones_ft (f : FT) : ∀ u ∈ FT.cells f, u.oneCell' = true := by
 intro u hu
 simp only [FT.cells, List.mem_cons, List.not_mem_nil, or_false] at hu
 rcases hu with rfl | rfl | rfl | rfl | rfl <;> rfl
section
variable {o : Oper} {a : Act} {w : World} {K : Act → World → Prop} {Q : Exit → Act → World → Prop}
theorem wp_bldF (i : Nat) (ho : o.op = .buildSlice 51 1 #[(0, .tmp i)]) (y : FT) (hx : a.eval (.tmp i) = .agg (FT.cells y).toArray) (h : K (a.put o.dst (.slice (some ⟨w.heap.size, 0, none⟩) 1 1)) (w.alloc (.cells (FT.cells y).toArray 64))) : o.wp Tryz.prog a w K Q := by
 unfold Oper.wp
 have hx' : a.tmps[i]?.getD undef = .agg (FT.cells y).toArray := by unfold Act.eval at hx; simpa using hx
 have e : (execOp a.eval o).run Tryz.prog w = .ok (.value (.slice (some ⟨w.heap.size, 0, none⟩) 1 1)) (w.alloc (.cells (FT.cells y).toArray 64)) := by
  unfold execOp
  simp only [ho]
  go_simp
  try (simp [FT.cells, newObj]; rfl)
 rw [e]
 exact h
set_option maxRecDepth 10000 in
theorem wp_stF (x y : Operand) (ho : o.op = .store 51 x y) (p : Addr) (hx : a.eval x = .pointer (some p)) (A : Option Addr) (n c : Nat) (hy : a.eval y = .slice A n c) (u : Value) (hc : w.cell? p = some u) (hf : w.frozen? p = false) (h : K (a.put o.dst undef) (w.setCell p (.slice A n c))) : o.wp Tryz.prog a w K Q := by
 unfold Oper.wp
 have e : (execOp a.eval o).run Tryz.prog w = .ok .skip (w.setCell p (.slice A n c)) := by
  unfold execOp
  simp only [ho, hx, hy]
  go_simp
 rw [e, Oper.upon_skip]
 exact h
theorem load_slF {w : World} {p : Addr} {A : Option Addr} {n c : Nat} (h : w.cell? p = some (.slice A n c)) : (Instr.loadAt 51 (.pointer (some p))).run Tryz.prog w = .ok (.slice A n c) w := by
 simp [Instr.loadAt, h]
 go_simp
theorem wp_appF (s x : Operand) (ho : o.op = .call { callee := .builtin .append, args := #[s, x], argTypes := #[51, 51] }) (hty : o.type = 51)
  (base : Nat) (v : Value) (n : Nat) (xs : List Value) (hs : a.eval s = v) (hown : w.ownsRow base 64 5 v n xs) (g : Nat) (y : FT) (hx : a.eval x = .slice (some ⟨g, 0, none⟩) 1 1) (hr : Blk w g 64 (FT.cells y)) (hb : n ≤ 1048576) (hbase : base ≤ w.heap.size)
  (h : ∀ g9 c9 w', w'.ownsRow base 64 5 (.slice (some ⟨g9, 0, none⟩) (n + 1) c9) (n + 1) (xs ++ FT.cells y) → w.grownBy w' v.ownBlock → (v.ownBlock = some g9 ∨ g9 = w.heap.size) → K (a.put o.dst (.slice (some ⟨g9, 0, none⟩) (n + 1) c9)) w') : o.wp Tryz.prog a w K Q := by
 obtain ⟨i0, hi0, hz0, hz1, hz2⟩ := info_parts info_fld
 refine wp_append_lies w s x 51 ho base 64 i0 _ 5 64 Tryz.underlying51 hi0 hz0 hz1 hz2 rfl (by decide) v n xs hs hown ⟨g, 0, none⟩ 1 1 (FT.cells y) hx rfl (World.news_of_block hr) (ones_ft y) (by decide) (by unfold maxLen; omega) (by omega) hbase w.heap.size rfl ?_
 intro g9 c9 w' h1 h2 h3 _
 exact h g9 c9 w' h1 h2 h3
end
section
variable {o : Oper} {a : Act} {w : World} {K : Act → World → Prop} {Q : Exit → Act → World → Prop}
theorem wp_bldI (i : Nat) (ho : o.op = .buildSlice 49 1 #[(0, .tmp i)]) (y : Int) (hx : a.eval (.tmp i) = .int .i64 y) (h : K (a.put o.dst (.slice (some ⟨w.heap.size, 0, none⟩) 1 1)) (w.alloc (.cells ([Value.int .i64 y]).toArray 3))) : o.wp Tryz.prog a w K Q := by
 unfold Oper.wp
 have hx' : a.tmps[i]?.getD undef = .int .i64 y := by unfold Act.eval at hx; simpa using hx
 have e : (execOp a.eval o).run Tryz.prog w = .ok (.value (.slice (some ⟨w.heap.size, 0, none⟩) 1 1)) (w.alloc (.cells ([Value.int .i64 y]).toArray 3)) := by
  unfold execOp
  simp only [ho]
  go_simp
  try (simp [FT.cells, newObj]; rfl)
 rw [e]
 exact h
set_option maxRecDepth 10000 in
theorem wp_stI (x y : Operand) (ho : o.op = .store 49 x y) (p : Addr) (hx : a.eval x = .pointer (some p)) (A : Option Addr) (n c : Nat) (hy : a.eval y = .slice A n c) (u : Value) (hc : w.cell? p = some u) (hf : w.frozen? p = false) (h : K (a.put o.dst undef) (w.setCell p (.slice A n c))) : o.wp Tryz.prog a w K Q := by
 unfold Oper.wp
 have e : (execOp a.eval o).run Tryz.prog w = .ok .skip (w.setCell p (.slice A n c)) := by
  unfold execOp
  simp only [ho, hx, hy]
  go_simp
 rw [e, Oper.upon_skip]
 exact h
theorem load_slI {w : World} {p : Addr} {A : Option Addr} {n c : Nat} (h : w.cell? p = some (.slice A n c)) : (Instr.loadAt 49 (.pointer (some p))).run Tryz.prog w = .ok (.slice A n c) w := by
 simp [Instr.loadAt, h]
 go_simp
theorem wp_appI (s x : Operand) (ho : o.op = .call { callee := .builtin .append, args := #[s, x], argTypes := #[49, 49] }) (hty : o.type = 49)
  (base : Nat) (v : Value) (n : Nat) (xs : List Value) (hs : a.eval s = v) (hown : w.ownsRow base 3 1 v n xs) (g : Nat) (y : Int) (hx : a.eval x = .slice (some ⟨g, 0, none⟩) 1 1) (hr : Blk w g 3 ([Value.int .i64 y])) (hb : n ≤ 1048576) (hbase : base ≤ w.heap.size)
  (h : ∀ g9 c9 w', w'.ownsRow base 3 1 (.slice (some ⟨g9, 0, none⟩) (n + 1) c9) (n + 1) (xs ++ [Value.int .i64 y]) → w.grownBy w' v.ownBlock → (v.ownBlock = some g9 ∨ g9 = w.heap.size) → K (a.put o.dst (.slice (some ⟨g9, 0, none⟩) (n + 1) c9)) w') : o.wp Tryz.prog a w K Q := by
 obtain ⟨i0, hi0, hz0, hz1, hz2⟩ := info_parts info_int
 refine wp_append_lies w s x 49 ho base 3 i0 _ 1 8 Tryz.underlying49 hi0 hz0 hz1 hz2 rfl (by decide) v n xs hs hown ⟨g, 0, none⟩ 1 1 ([Value.int .i64 y]) hx rfl (World.news_of_block hr) ((by intro u hu; simp at hu; subst hu; rfl)) (by decide) (by unfold maxLen; omega) (by omega) hbase w.heap.size rfl ?_
 intro g9 c9 w' h1 h2 h3 _
 exact h g9 c9 w' h1 h2 h3
end
section
variable {o : Oper} {a : Act} {w : World} {K : Act → World → Prop} {Q : Exit → Act → World → Prop}
theorem wp_bldB (i : Nat) (ho : o.op = .buildSlice 50 1 #[(0, .tmp i)]) (y : Bool) (hx : a.eval (.tmp i) = .bool y) (h : K (a.put o.dst (.slice (some ⟨w.heap.size, 0, none⟩) 1 1)) (w.alloc (.cells ([Value.bool y]).toArray 4))) : o.wp Tryz.prog a w K Q := by
 unfold Oper.wp
 have hx' : a.tmps[i]?.getD undef = .bool y := by unfold Act.eval at hx; simpa using hx
 have e : (execOp a.eval o).run Tryz.prog w = .ok (.value (.slice (some ⟨w.heap.size, 0, none⟩) 1 1)) (w.alloc (.cells ([Value.bool y]).toArray 4)) := by
  unfold execOp
  simp only [ho]
  go_simp
  try (simp [FT.cells, newObj]; rfl)
 rw [e]
 exact h
set_option maxRecDepth 10000 in
theorem wp_stB (x y : Operand) (ho : o.op = .store 50 x y) (p : Addr) (hx : a.eval x = .pointer (some p)) (A : Option Addr) (n c : Nat) (hy : a.eval y = .slice A n c) (u : Value) (hc : w.cell? p = some u) (hf : w.frozen? p = false) (h : K (a.put o.dst undef) (w.setCell p (.slice A n c))) : o.wp Tryz.prog a w K Q := by
 unfold Oper.wp
 have e : (execOp a.eval o).run Tryz.prog w = .ok .skip (w.setCell p (.slice A n c)) := by
  unfold execOp
  simp only [ho, hx, hy]
  go_simp
 rw [e, Oper.upon_skip]
 exact h
theorem load_slB {w : World} {p : Addr} {A : Option Addr} {n c : Nat} (h : w.cell? p = some (.slice A n c)) : (Instr.loadAt 50 (.pointer (some p))).run Tryz.prog w = .ok (.slice A n c) w := by
 simp [Instr.loadAt, h]
 go_simp
theorem wp_appB (s x : Operand) (ho : o.op = .call { callee := .builtin .append, args := #[s, x], argTypes := #[50, 50] }) (hty : o.type = 50)
  (base : Nat) (v : Value) (n : Nat) (xs : List Value) (hs : a.eval s = v) (hown : w.ownsRow base 4 1 v n xs) (g : Nat) (y : Bool) (hx : a.eval x = .slice (some ⟨g, 0, none⟩) 1 1) (hr : Blk w g 4 ([Value.bool y])) (hb : n ≤ 1048576) (hbase : base ≤ w.heap.size)
  (h : ∀ g9 c9 w', w'.ownsRow base 4 1 (.slice (some ⟨g9, 0, none⟩) (n + 1) c9) (n + 1) (xs ++ [Value.bool y]) → w.grownBy w' v.ownBlock → (v.ownBlock = some g9 ∨ g9 = w.heap.size) → K (a.put o.dst (.slice (some ⟨g9, 0, none⟩) (n + 1) c9)) w') : o.wp Tryz.prog a w K Q := by
 obtain ⟨i0, hi0, hz0, hz1, hz2⟩ := info_parts info_bool
 refine wp_append_lies w s x 50 ho base 4 i0 _ 1 1 Tryz.underlying50 hi0 hz0 hz1 hz2 rfl (by decide) v n xs hs hown ⟨g, 0, none⟩ 1 1 ([Value.bool y]) hx rfl (World.news_of_block hr) ((by intro u hu; simp at hu; subst hu; rfl)) (by decide) (by unfold maxLen; omega) (by omega) hbase w.heap.size rfl ?_
 intro g9 c9 w' h1 h2 h3 _
 exact h g9 c9 w' h1 h2 h3
end
def rc6Ops : Array Oper := #[{ dst := some 18, op := Op.fieldAddr 54 (Operand.tmp 5) 11, type := 0, pos := "kind.go:117", after := #[], guard := none }, { dst := some 19, op := Op.load 51 (Operand.tmp 18), type := 51, pos := "kind.go:117", after := #[{ on := 0, ground := Ground.data }], guard := none }, { dst := some 20, op := Op.move (Operand.tmp 0), type := 99, pos := "kind.go:117", after := #[], guard := none }, { dst := some 21, op := Op.move (Operand.tmp 1), type := 3, pos := "kind.go:117", after := #[], guard := none }, { dst := some 22, op := Op.call { callee := Callee.value (Operand.func 117), args := #[Operand.tmp 20, Operand.tmp 21], argTypes := #[99, 3] }, type := 64, pos := "kind.go:117", after := #[{ on := 2, ground := Ground.data }, { on := 3, ground := Ground.data }], guard := none }, { dst := some 23, op := Op.buildSlice 51 1 #[(0, Operand.tmp 22)], type := 51, pos := "kind.go:117", after := #[{ on := 4, ground := Ground.data }], guard := none }, { dst := some 24, op := Op.call { callee := Callee.builtin Builtin.append, args := #[Operand.tmp 19, Operand.tmp 23], argTypes := #[51, 51] }, type := 51, pos := "kind.go:117", after := #[{ on := 1, ground := Ground.data }, { on := 5, ground := Ground.data }, { on := 4, ground := Ground.chain }], guard := none }, { dst := some 25, op := Op.fieldAddr 54 (Operand.tmp 5) 11, type := 0, pos := "kind.go:117", after := #[{ on := 0, ground := Ground.phase }, { on := 1, ground := Ground.phase }, { on := 2, ground := Ground.phase }, { on := 3, ground := Ground.phase }, { on := 4, ground := Ground.phase }, { on := 5, ground := Ground.phase }, { on := 6, ground := Ground.phase }], guard := none }, { dst := none, op := Op.store 51 (Operand.tmp 25) (Operand.tmp 24), type := 0, pos := "kind.go:117", after := #[{ on := 7, ground := Ground.data }, { on := 6, ground := Ground.data }, { on := 6, ground := Ground.chain }, { on := 0, ground := Ground.phase }, { on := 1, ground := Ground.phase }, { on := 2, ground := Ground.phase }, { on := 3, ground := Ground.phase }, { on := 4, ground := Ground.phase }, { on := 5, ground := Ground.phase }, { on := 6, ground := Ground.phase }], guard := none }]
def rc6Dep : Nat → List Nat := fun i => match i with | 1 => [0] | 4 => [2, 3] | 5 => [4] | 6 => [1, 5] | 8 => [7, 6] | _ => []
structure rc6C (bx : Nat) (g : Nat) (n : Nat) (c : Nat) (A : Option Addr) (dp : Int) (kk : Int) (W1 : World) (R4 : Value → World → Prop) (R5 : Value → World → Prop) (R6 : Value → World → Prop) (R8 : World → Prop) (L : Nat → Bool) (f : Nat → Value) (w : World) : Prop where
 v0 : L 0 = true → f 18 = .pointer (some ⟨bx, 13, none⟩)
 v1 : L 1 = true → f 19 = .slice A n c
 v2 : L 2 = true → f 20 = .pointer (some ⟨g, 0, none⟩)
 v3 : L 3 = true → f 21 = .int .i64 dp
 v7 : L 7 = true → f 25 = .pointer (some ⟨bx, 13, none⟩)
 wz : L 4 = false → w = W1
 w4 : L 4 = true → L 5 = false → R4 (f 22) w
 w5 : L 5 = true → L 6 = false → R5 (f 23) w
 w6 : L 6 = true → L 8 = false → R6 (f 24) w
 w8 : L 8 = true → R8 w
 d5_4 : L 5 = true → L 4 = true
 d6_5 : L 6 = true → L 5 = true
 d8_6 : L 8 = true → L 6 = true
 d6_1 : L 6 = true → L 1 = true
 d4_2 : L 4 = true → L 2 = true
 d4_3 : L 4 = true → L 3 = true
 d8_7 : L 8 = true → L 7 = true
theorem rc6_0 {bx : Nat} {g : Nat} {n : Nat} {c : Nat} {A : Option Addr} {dp : Int} {kk : Int} {W1 : World} {R4 : Value → World → Prop} {R5 : Value → World → Prop} {R6 : Value → World → Prop} {R8 : World → Prop} {L : Nat → Bool} {f : Nat → Value} {w : World} (h : rc6C bx g n c A dp kk W1 R4 R5 R6 R8 L f w) : rc6C bx g n c A dp kk W1 R4 R5 R6 R8 (fun k => if k = 0 then true else L k) (fun t => if (some 18 : Option Nat) = some t then (.pointer (some ⟨bx, 13, none⟩)) else f t) w where
 v0 := fun _ => by simp
 v1 := by simpa using h.v1
 v2 := by simpa using h.v2
 v3 := by simpa using h.v3
 v7 := by simpa using h.v7
 wz := by simpa using h.wz
 w4 := by simpa using h.w4
 w5 := by simpa using h.w5
 w6 := by simpa using h.w6
 w8 := by simpa using h.w8
 d5_4 := by simpa using h.d5_4
 d6_5 := by simpa using h.d6_5
 d8_6 := by simpa using h.d8_6
 d6_1 := by simpa using h.d6_1
 d4_2 := by simpa using h.d4_2
 d4_3 := by simpa using h.d4_3
 d8_7 := by simpa using h.d8_7
theorem rc6_1 {bx : Nat} {g : Nat} {n : Nat} {c : Nat} {A : Option Addr} {dp : Int} {kk : Int} {W1 : World} {R4 : Value → World → Prop} {R5 : Value → World → Prop} {R6 : Value → World → Prop} {R8 : World → Prop} {L : Nat → Bool} {f : Nat → Value} {w : World} (h : rc6C bx g n c A dp kk W1 R4 R5 R6 R8 L f w) : rc6C bx g n c A dp kk W1 R4 R5 R6 R8 (fun k => if k = 1 then true else L k) (fun t => if (some 19 : Option Nat) = some t then (.slice A n c) else f t) w where
 v0 := by simpa using h.v0
 v1 := fun _ => by simp
 v2 := by simpa using h.v2
 v3 := by simpa using h.v3
 v7 := by simpa using h.v7
 wz := by simpa using h.wz
 w4 := by simpa using h.w4
 w5 := by simpa using h.w5
 w6 := by simpa using h.w6
 w8 := by simpa using h.w8
 d5_4 := by simpa using h.d5_4
 d6_5 := by simpa using h.d6_5
 d8_6 := by simpa using h.d8_6
 d6_1 := fun _ => by simp
 d4_2 := by simpa using h.d4_2
 d4_3 := by simpa using h.d4_3
 d8_7 := by simpa using h.d8_7
theorem rc6_2 {bx : Nat} {g : Nat} {n : Nat} {c : Nat} {A : Option Addr} {dp : Int} {kk : Int} {W1 : World} {R4 : Value → World → Prop} {R5 : Value → World → Prop} {R6 : Value → World → Prop} {R8 : World → Prop} {L : Nat → Bool} {f : Nat → Value} {w : World} (h : rc6C bx g n c A dp kk W1 R4 R5 R6 R8 L f w) : rc6C bx g n c A dp kk W1 R4 R5 R6 R8 (fun k => if k = 2 then true else L k) (fun t => if (some 20 : Option Nat) = some t then (.pointer (some ⟨g, 0, none⟩)) else f t) w where
 v0 := by simpa using h.v0
 v1 := by simpa using h.v1
 v2 := fun _ => by simp
 v3 := by simpa using h.v3
 v7 := by simpa using h.v7
 wz := by simpa using h.wz
 w4 := by simpa using h.w4
 w5 := by simpa using h.w5
 w6 := by simpa using h.w6
 w8 := by simpa using h.w8
 d5_4 := by simpa using h.d5_4
 d6_5 := by simpa using h.d6_5
 d8_6 := by simpa using h.d8_6
 d6_1 := by simpa using h.d6_1
 d4_2 := fun _ => by simp
 d4_3 := by simpa using h.d4_3
 d8_7 := by simpa using h.d8_7
theorem rc6_3 {bx : Nat} {g : Nat} {n : Nat} {c : Nat} {A : Option Addr} {dp : Int} {kk : Int} {W1 : World} {R4 : Value → World → Prop} {R5 : Value → World → Prop} {R6 : Value → World → Prop} {R8 : World → Prop} {L : Nat → Bool} {f : Nat → Value} {w : World} (h : rc6C bx g n c A dp kk W1 R4 R5 R6 R8 L f w) : rc6C bx g n c A dp kk W1 R4 R5 R6 R8 (fun k => if k = 3 then true else L k) (fun t => if (some 21 : Option Nat) = some t then (.int .i64 dp) else f t) w where
 v0 := by simpa using h.v0
 v1 := by simpa using h.v1
 v2 := by simpa using h.v2
 v3 := fun _ => by simp
 v7 := by simpa using h.v7
 wz := by simpa using h.wz
 w4 := by simpa using h.w4
 w5 := by simpa using h.w5
 w6 := by simpa using h.w6
 w8 := by simpa using h.w8
 d5_4 := by simpa using h.d5_4
 d6_5 := by simpa using h.d6_5
 d8_6 := by simpa using h.d8_6
 d6_1 := by simpa using h.d6_1
 d4_2 := by simpa using h.d4_2
 d4_3 := fun _ => by simp
 d8_7 := by simpa using h.d8_7
theorem rc6_4 {bx : Nat} {g : Nat} {n : Nat} {c : Nat} {A : Option Addr} {dp : Int} {kk : Int} {W1 : World} {R4 : Value → World → Prop} {R5 : Value → World → Prop} {R6 : Value → World → Prop} {R8 : World → Prop} {L : Nat → Bool} {f : Nat → Value} {w : World} {v : Value} {w2 : World} (h : rc6C bx g n c A dp kk W1 R4 R5 R6 R8 L f w) (h4 : L 4 = false) (h2 : L 2 = true) (h3 : L 3 = true) (hp : R4 v w2) : rc6C bx g n c A dp kk W1 R4 R5 R6 R8 (fun k => if k = 4 then true else L k) (fun t => if (some 22 : Option Nat) = some t then v else f t) w2 := by
 have h5 : L 5 = false := by cases hh : L 5 with | false => rfl | true => exact absurd (h.d5_4 hh) (by rw [h4]; decide)
 have h6 : L 6 = false := by cases hh : L 6 with | false => rfl | true => exact absurd (h.d6_5 hh) (by rw [h5]; decide)
 have h8 : L 8 = false := by cases hh : L 8 with | false => rfl | true => exact absurd (h.d8_6 hh) (by rw [h6]; decide)
 constructor
 ·simpa using h.v0
 ·simpa using h.v1
 ·simpa using h.v2
 ·simpa using h.v3
 ·simpa using h.v7
 ·intro hh; simp at hh
 ·intro _ _; simpa using hp
 ·intro hh _; simp [h5] at hh
 ·intro hh _; simp [h6] at hh
 ·intro hh; simp [h8] at hh
 ·intro _; simp
 ·simpa using h.d6_5
 ·simpa using h.d8_6
 ·simpa using h.d6_1
 ·intro _; simpa using h2
 ·intro _; simpa using h3
 ·simpa using h.d8_7
theorem rc6_5 {bx : Nat} {g : Nat} {n : Nat} {c : Nat} {A : Option Addr} {dp : Int} {kk : Int} {W1 : World} {R4 : Value → World → Prop} {R5 : Value → World → Prop} {R6 : Value → World → Prop} {R8 : World → Prop} {L : Nat → Bool} {f : Nat → Value} {w : World} {v : Value} {w2 : World} (h : rc6C bx g n c A dp kk W1 R4 R5 R6 R8 L f w) (h4 : L 4 = true) (h5 : L 5 = false) (hp : R5 v w2) : rc6C bx g n c A dp kk W1 R4 R5 R6 R8 (fun k => if k = 5 then true else L k) (fun t => if (some 23 : Option Nat) = some t then v else f t) w2 := by
 have h6 : L 6 = false := by cases hh : L 6 with | false => rfl | true => exact absurd (h.d6_5 hh) (by rw [h5]; decide)
 have h8 : L 8 = false := by cases hh : L 8 with | false => rfl | true => exact absurd (h.d8_6 hh) (by rw [h6]; decide)
 constructor
 ·simpa using h.v0
 ·simpa using h.v1
 ·simpa using h.v2
 ·simpa using h.v3
 ·simpa using h.v7
 ·intro hh; simp [h4] at hh
 ·intro _ hh; simp at hh
 ·intro _ _; simpa using hp
 ·intro hh _; simp [h6] at hh
 ·intro hh; simp [h8] at hh
 ·intro _; simpa using h4
 ·intro _; simp
 ·simpa using h.d8_6
 ·simpa using h.d6_1
 ·simpa using h.d4_2
 ·simpa using h.d4_3
 ·simpa using h.d8_7
theorem rc6_6 {bx : Nat} {g : Nat} {n : Nat} {c : Nat} {A : Option Addr} {dp : Int} {kk : Int} {W1 : World} {R4 : Value → World → Prop} {R5 : Value → World → Prop} {R6 : Value → World → Prop} {R8 : World → Prop} {L : Nat → Bool} {f : Nat → Value} {w : World} {v : Value} {w2 : World} (h : rc6C bx g n c A dp kk W1 R4 R5 R6 R8 L f w) (h4 : L 4 = true) (h5 : L 5 = true) (h6 : L 6 = false) (h1 : L 1 = true) (hp : R6 v w2) : rc6C bx g n c A dp kk W1 R4 R5 R6 R8 (fun k => if k = 6 then true else L k) (fun t => if (some 24 : Option Nat) = some t then v else f t) w2 := by
 have h8 : L 8 = false := by cases hh : L 8 with | false => rfl | true => exact absurd (h.d8_6 hh) (by rw [h6]; decide)
 constructor
 ·simpa using h.v0
 ·simpa using h.v1
 ·simpa using h.v2
 ·simpa using h.v3
 ·simpa using h.v7
 ·intro hh; simp [h4] at hh
 ·intro _ hh; simp [h5] at hh
 ·intro _ hh; simp at hh
 ·intro _ _; simpa using hp
 ·intro hh; simp [h8] at hh
 ·simpa using h.d5_4
 ·intro _; simpa using h5
 ·intro _; simp
 ·intro _; simpa using h1
 ·simpa using h.d4_2
 ·simpa using h.d4_3
 ·simpa using h.d8_7
theorem rc6_7 {bx : Nat} {g : Nat} {n : Nat} {c : Nat} {A : Option Addr} {dp : Int} {kk : Int} {W1 : World} {R4 : Value → World → Prop} {R5 : Value → World → Prop} {R6 : Value → World → Prop} {R8 : World → Prop} {L : Nat → Bool} {f : Nat → Value} {w : World} (h : rc6C bx g n c A dp kk W1 R4 R5 R6 R8 L f w) : rc6C bx g n c A dp kk W1 R4 R5 R6 R8 (fun k => if k = 7 then true else L k) (fun t => if (some 25 : Option Nat) = some t then (.pointer (some ⟨bx, 13, none⟩)) else f t) w where
 v0 := by simpa using h.v0
 v1 := by simpa using h.v1
 v2 := by simpa using h.v2
 v3 := by simpa using h.v3
 v7 := fun _ => by simp
 wz := by simpa using h.wz
 w4 := by simpa using h.w4
 w5 := by simpa using h.w5
 w6 := by simpa using h.w6
 w8 := by simpa using h.w8
 d5_4 := by simpa using h.d5_4
 d6_5 := by simpa using h.d6_5
 d8_6 := by simpa using h.d8_6
 d6_1 := by simpa using h.d6_1
 d4_2 := by simpa using h.d4_2
 d4_3 := by simpa using h.d4_3
 d8_7 := fun _ => by simp
theorem rc6_8 {bx : Nat} {g : Nat} {n : Nat} {c : Nat} {A : Option Addr} {dp : Int} {kk : Int} {W1 : World} {R4 : Value → World → Prop} {R5 : Value → World → Prop} {R6 : Value → World → Prop} {R8 : World → Prop} {L : Nat → Bool} {f : Nat → Value} {w : World} {v : Value} {w2 : World} (h : rc6C bx g n c A dp kk W1 R4 R5 R6 R8 L f w) (h4 : L 4 = true) (h5 : L 5 = true) (h6 : L 6 = true) (h8 : L 8 = false) (h7 : L 7 = true) (hp : R8 w2) : rc6C bx g n c A dp kk W1 R4 R5 R6 R8 (fun k => if k = 8 then true else L k) (fun t => if (none : Option Nat) = some t then v else f t) w2 := by
 constructor
 ·simpa using h.v0
 ·simpa using h.v1
 ·simpa using h.v2
 ·simpa using h.v3
 ·simpa using h.v7
 ·intro hh; simp [h4] at hh
 ·intro _ hh; simp [h5] at hh
 ·intro _ hh; simp [h6] at hh
 ·intro _ hh; simp at hh
 ·intro _; simpa using hp
 ·simpa using h.d5_4
 ·simpa using h.d6_5
 ·intro _; simpa using h6
 ·simpa using h.d6_1
 ·simpa using h.d4_2
 ·simpa using h.d4_3
 ·intro _; simpa using h7
def rc6Us (f : Nat → Value) : List (Nat × Value) := [(18, f 18), (19, f 19), (20, f 20), (21, f 21), (22, f 22), (23, f 23), (24, f 24), (25, f 25)]
set_option maxRecDepth 10000 in
set_option maxHeartbeats 1000000 in
theorem rc6_reg {bx g n c base : Nat} {A : Option Addr} {dp kk : Int} {W : World} {xs : List Value} {R1 : FT → World → Prop} {R4 : World → Prop} {A0 : Act} {Q : Exit → Act → World → Prop} {id : Nat} (ab : Act.at A0 5 = .pointer (some ⟨bx, 0, none⟩)) (a0 : Act.at A0 0 = .pointer (some ⟨g, 0, none⟩)) (a1 : Act.at A0 1 = .int .i64 dp) (hsz : 26 ≤ A0.tmps.size) (hB : W.drew.cell? ⟨bx, 13, none⟩ = some (.slice A n c)) (hn : n ≤ 1048576) (hadd : ∀ w, (binOp .add 3 (.int .i64 dp) (.int .i64 1)).run Tryz.prog w = .ok (.int .i64 (dp + 1)) w)
  (HC : Calls Tryz.prog 117 #[.pointer (some ⟨g, 0, none⟩), .int .i64 dp] W.drew fun e w' => ∃ v, e = .returned v ∧ (fun u w => ∃ y : FT, u = .agg (FT.cells y).toArray ∧ R1 y w) v w')
  (hR1 : ∀ y w, R1 y w → w.cell? ⟨bx, 13, none⟩ = some (.slice A n c) ∧ w.frozen? ⟨bx, 13, none⟩ = false ∧ w.ownsRow base 64 5 (.slice A n c) n xs ∧ base ≤ w.heap.size ∧ bx < w.heap.size)
  (hR3 : ∀ y w, R1 y w → ∀ g9 c9 w', w'.ownsRow base 64 5 (.slice (some ⟨g9, 0, none⟩) (n + 1) c9) (n + 1) (xs ++ FT.cells y) → (w.alloc (.cells (FT.cells y).toArray 64)).grownBy w' (Value.slice A n c).ownBlock → ((Value.slice A n c).ownBlock = some g9 ∨ g9 = (w.alloc (.cells (FT.cells y).toArray 64)).heap.size) → w'.cell? ⟨bx, 13, none⟩ = some (.slice A n c) ∧ w'.frozen? ⟨bx, 13, none⟩ = false ∧ R4 (w'.setCell ⟨bx, 13, none⟩ (.slice (some ⟨g9, 0, none⟩) (n + 1) c9)))
  (hk : ∀ (f : Nat → Value) w', R4 w' → Q .normal ⟨(rc6Us f).foldl (fun A p => A.setIfInBounds p.1 p.2) A0.tmps, A0.defers⟩ w') :
  (Code.region id rc6Ops true).wp Tryz.prog Q A0 W := by
 refine wp_region_fun (by kernel_rfl) (fun L f w => rc6C bx g n c A dp kk W.drew (fun u w => ∃ y : FT, u = .agg (FT.cells y).toArray ∧ R1 y w) (fun u w => ∃ y w1, R1 y w1 ∧ u = .slice (some ⟨w1.heap.size, 0, none⟩) 1 1 ∧ w = w1.alloc (.cells (FT.cells y).toArray 64)) (fun u w => ∃ g9 c9, u = .slice (some ⟨g9, 0, none⟩) (n + 1) c9 ∧ w.cell? ⟨bx, 13, none⟩ = some (.slice A n c) ∧ w.frozen? ⟨bx, 13, none⟩ = false ∧ R4 (w.setCell ⟨bx, 13, none⟩ (.slice (some ⟨g9, 0, none⟩) (n + 1) c9))) R4 L f w) [18, 19, 20, 21, 22, 23, 24, 25] (wf_ops2 (by kernel_rfl)) (fun i o ho u hu => ?_) ?_ ?_ ?_
 ·have := ops_dst [18, 19, 20, 21, 22, 23, 24, 25] 26 (by kernel_rfl) i o ho u hu
  exact ⟨this.1, Nat.lt_of_lt_of_le this.2 hsz⟩
 ·have hs : rc6Ops.size = 9 := rfl
  rw [hs]
  constructor <;> first | exact (fun _ => rfl) | (intro h; simp at h) | (intro h h2; simp at h)
 ·rintro L i o ho hLi haf b w hf hc K hK
  have hdep := ops_deps rc6Dep (by kernel_rfl) ho haf
  clear haf
  have hs : rc6Ops.size = 9 := rfl
  have hlt : i < 9 := hs ▸ (Array.getElem?_eq_some_iff.1 ho).1
  have hcases : i = 0 ∨ i = 1 ∨ i = 2 ∨ i = 3 ∨ i = 4 ∨ i = 5 ∨ i = 6 ∨ i = 7 ∨ i = 8 := by omega
  rcases hcases with rfl | rfl | rfl | rfl | rfl | rfl | rfl | rfl | rfl
  ·obtain ⟨h1, h2⟩ := op_at2 ho (show (rc6Ops[0]?).map (fun o => (o.dst, o.op)) = some ((some 18), (Op.fieldAddr 54 (Operand.tmp 5) 11)) by kernel_rfl)
   rw [h1] at hK
   refine wp_fieldG _ _ _ h2 _ _ ((hf 5 (by decide)).trans ab) (show (Instr.fieldAt 54 (.pointer (some ⟨bx, 0, none⟩)) 11).run Tryz.prog w = .ok (.pointer (some ⟨bx, 13, none⟩)) w from by kernel_rfl) ?_
   rw [h1]
   exact hK _ _ (rc6_0 hc)
  ·obtain ⟨h1, h2⟩ := op_at2 ho (show (rc6Ops[1]?).map (fun o => (o.dst, o.op)) = some ((some 19), (Op.load 51 (Operand.tmp 18))) by kernel_rfl)
   rw [h1] at hK
   have l0 : L 0 = true := hdep 0 (by simp [rc6Dep])
   have hcell : w.cell? ⟨bx, 13, none⟩ = some (.slice A n c) := by
    cases hq4 : L 4 with
    | false => rw [hc.wz hq4]; exact hB
    | true =>
     cases hq5 : L 5 with
     | false => obtain ⟨y, _, hy⟩ := hc.w4 hq4 hq5; exact (hR1 y w hy).1
     | true =>
      cases hq6 : L 6 with
      | true => exact absurd (hc.d6_1 hq6) (by rw [hLi]; decide)
      | false =>
       obtain ⟨y, w1, hy, _, rfl⟩ := hc.w5 hq5 hq6
       have h1c := (hR1 y w1 hy).1
       have hal : Below w1.heap.size w1 (w1.alloc (.cells (FT.cells y).toArray 64)) := al_below _ _
       exact (World.cell?_of_block (w := w1) (a := ⟨bx, 13, none⟩) (hal.block bx (hR1 y w1 hy).2.2.2.2)).trans h1c
   refine wp_loadG _ _ h2 _ _ (hc.v0 l0) (load_slF hcell) ?_
   rw [h1]
   exact hK _ _ (rc6_1 hc)
  ·obtain ⟨h1, h2⟩ := op_at2 ho (show (rc6Ops[2]?).map (fun o => (o.dst, o.op)) = some ((some 20), (Op.move (Operand.tmp 0))) by kernel_rfl)
   rw [h1] at hK
   refine wp_moveG _ h2 _ ((hf 0 (by decide)).trans a0) ?_
   rw [h1]
   exact hK _ _ (rc6_2 hc)
  ·obtain ⟨h1, h2⟩ := op_at2 ho (show (rc6Ops[3]?).map (fun o => (o.dst, o.op)) = some ((some 21), (Op.move (Operand.tmp 1))) by kernel_rfl)
   rw [h1] at hK
   refine wp_moveG _ h2 _ ((hf 1 (by decide)).trans a1) ?_
   rw [h1]
   exact hK _ _ (rc6_3 hc)
  ·obtain ⟨h1, h2⟩ := op_at2 ho (show (rc6Ops[4]?).map (fun o => (o.dst, o.op)) = some ((some 22), (Op.call { callee := Callee.value (Operand.func 117), args := #[Operand.tmp 20, Operand.tmp 21], argTypes := #[99, 3] })) by kernel_rfl)
   rw [h1] at hK
   have l2 : L 2 = true := hdep 2 (by simp [rc6Dep])
   have l3 : L 3 = true := hdep 3 (by simp [rc6Dep])
   obtain rfl := hc.wz hLi
   refine wp_callG 117 _ _ h2 (enters_of Tryz.func117 (by kernel_rfl) rfl) #[.pointer (some ⟨g, 0, none⟩), .int .i64 dp] (by simp [show b.eval (.tmp 20) = _ from hc.v2 l2, show b.eval (.tmp 21) = _ from hc.v3 l3]) _ HC ?_
   intro v w2 hp
   rw [h1]
   exact hK _ _ (rc6_4 hc hLi l2 l3 hp)
  ·obtain ⟨h1, h2⟩ := op_at2 ho (show (rc6Ops[5]?).map (fun o => (o.dst, o.op)) = some ((some 23), (Op.buildSlice 51 1 #[(0, Operand.tmp 22)])) by kernel_rfl)
   rw [h1] at hK
   have l4 : L 4 = true := hdep 4 (by simp [rc6Dep])
   have lq : L 5 = false := hLi
   obtain ⟨y, hy0, hy⟩ := hc.w4 l4 lq
   refine wp_bldF 22 h2 y hy0 ?_
   rw [h1]
   exact hK _ _ (rc6_5 hc l4 hLi ⟨y, _, hy, rfl, rfl⟩)
  ·obtain ⟨h1, h2⟩ := op_at2 ho (show (rc6Ops[6]?).map (fun o => (o.dst, o.op)) = some ((some 24), (Op.call { callee := Callee.builtin Builtin.append, args := #[Operand.tmp 19, Operand.tmp 23], argTypes := #[51, 51] })) by kernel_rfl)
   rw [h1] at hK
   have l1 : L 1 = true := hdep 1 (by simp [rc6Dep])
   have l5 : L 5 = true := hdep 5 (by simp [rc6Dep])
   have l4 := hc.d5_4 l5
   obtain ⟨y, w1, hy, hu, rfl⟩ := hc.w5 l5 hLi
   obtain ⟨hq1, hq2, hq3, hq4, _⟩ := hR1 y w1 hy
   have hal : Below w1.heap.size w1 (w1.alloc (.cells (FT.cells y).toArray 64)) := al_below _ _
   have h4 : (rc6Ops[6]?).map (·.type) = some 51 := by kernel_rfl
   rw [ho] at h4
   replace h4 := Option.some.inj h4
   simp only at h4
   refine wp_appF _ _ h2 h4 base (.slice A n c) n xs (hc.v1 l1) (owns_chg hq3 (Chg.of_below hal (fun _ => False)) (fun _ _ h => h)) w1.heap.size y hu (heap_alloc_new w1 _) hn (Nat.le_trans hq4 hal.size) ?_
   intro g9 c9 w2 hown hgr hat
   rw [h1]
   exact hK _ _ (rc6_6 hc l4 l5 hLi l1 (by obtain ⟨e1, e2, e3⟩ := hR3 y w1 hy g9 c9 w2 hown hgr hat; exact ⟨g9, c9, rfl, e1, e2, e3⟩))
  ·obtain ⟨h1, h2⟩ := op_at2 ho (show (rc6Ops[7]?).map (fun o => (o.dst, o.op)) = some ((some 25), (Op.fieldAddr 54 (Operand.tmp 5) 11)) by kernel_rfl)
   rw [h1] at hK
   refine wp_fieldG _ _ _ h2 _ _ ((hf 5 (by decide)).trans ab) (show (Instr.fieldAt 54 (.pointer (some ⟨bx, 0, none⟩)) 11).run Tryz.prog w = .ok (.pointer (some ⟨bx, 13, none⟩)) w from by kernel_rfl) ?_
   rw [h1]
   exact hK _ _ (rc6_7 hc)
  ·obtain ⟨h1, h2⟩ := op_at2 ho (show (rc6Ops[8]?).map (fun o => (o.dst, o.op)) = some (none, (Op.store 51 (Operand.tmp 25) (Operand.tmp 24))) by kernel_rfl)
   rw [h1] at hK
   have l7 : L 7 = true := hdep 7 (by simp [rc6Dep])
   have l6 : L 6 = true := hdep 6 (by simp [rc6Dep])
   have l5 := hc.d6_5 l6
   have l4 := hc.d5_4 l5
   obtain ⟨g9, c9, hv, hcl, hfz, h13⟩ := hc.w6 l6 hLi
   refine wp_stF _ _ h2 ⟨bx, 13, none⟩ (hc.v7 l7) (some ⟨g9, 0, none⟩) (n + 1) c9 hv (.slice A n c) hcl hfz ?_
   rw [h1]
   exact hK _ _ (rc6_8 hc l4 l5 l6 hLi l7 h13)
 ·rintro L b w hL hd hs hf hc
  have hsz2 : rc6Ops.size = 9 := rfl
  rw [hsz2] at hL
  have e := act_eq (a := A0) (b := b) (rc6Us (Act.at b)) hd hs hf (by
   intro p hp
   simp only [rc6Us, List.mem_cons, List.not_mem_nil, or_false] at hp
   rcases hp with rfl | rfl | rfl | rfl | rfl | rfl | rfl | rfl <;> rfl) (by rw [show (rc6Us (Act.at b)).map (·.1) = [18, 19, 20, 21, 22, 23, 24, 25] from rfl]; decide)
  rw [e]
  exact hk (Act.at b) w (hc.w8 (hL 8 (by omega)))
def am8Ops : Array Oper := #[{ dst := some 23, op := Op.fieldAddr 54 (Operand.tmp 7) 10, type := 0, pos := "kind.go:191", after := #[], guard := none }, { dst := some 24, op := Op.load 50 (Operand.tmp 23), type := 50, pos := "kind.go:191", after := #[{ on := 0, ground := Ground.data }], guard := none }, { dst := some 25, op := Op.move (Operand.tmp 0), type := 99, pos := "kind.go:191", after := #[], guard := none }, { dst := some 26, op := Op.call { callee := Callee.value (Operand.func 86), args := #[Operand.tmp 25, Operand.const (Value.int IntKind.i64 1), Operand.const (Value.string { data := #[108, 97, 115, 116] })], argTypes := #[99, 3, 9] }, type := 4, pos := "kind.go:191", after := #[{ on := 2, ground := Ground.data }], guard := none }, { dst := some 27, op := Op.buildSlice 50 1 #[(0, Operand.tmp 26)], type := 50, pos := "kind.go:191", after := #[{ on := 3, ground := Ground.data }], guard := none }, { dst := some 28, op := Op.call { callee := Callee.builtin Builtin.append, args := #[Operand.tmp 24, Operand.tmp 27], argTypes := #[50, 50] }, type := 50, pos := "kind.go:191", after := #[{ on := 1, ground := Ground.data }, { on := 4, ground := Ground.data }, { on := 3, ground := Ground.chain }], guard := none }, { dst := some 29, op := Op.fieldAddr 54 (Operand.tmp 7) 10, type := 0, pos := "kind.go:191", after := #[{ on := 0, ground := Ground.phase }, { on := 1, ground := Ground.phase }, { on := 2, ground := Ground.phase }, { on := 3, ground := Ground.phase }, { on := 4, ground := Ground.phase }, { on := 5, ground := Ground.phase }], guard := none }, { dst := none, op := Op.store 50 (Operand.tmp 29) (Operand.tmp 28), type := 0, pos := "kind.go:191", after := #[{ on := 6, ground := Ground.data }, { on := 5, ground := Ground.data }, { on := 5, ground := Ground.chain }, { on := 0, ground := Ground.phase }, { on := 1, ground := Ground.phase }, { on := 2, ground := Ground.phase }, { on := 3, ground := Ground.phase }, { on := 4, ground := Ground.phase }, { on := 5, ground := Ground.phase }], guard := none }]
def am8Dep : Nat → List Nat := fun i => match i with | 1 => [0] | 3 => [2] | 4 => [3] | 5 => [1, 4] | 7 => [6, 5] | _ => []
structure am8C (bx : Nat) (g : Nat) (n : Nat) (c : Nat) (A : Option Addr) (dp : Int) (kk : Int) (W1 : World) (R3 : Value → World → Prop) (R4 : Value → World → Prop) (R5 : Value → World → Prop) (R7 : World → Prop) (L : Nat → Bool) (f : Nat → Value) (w : World) : Prop where
 v0 : L 0 = true → f 23 = .pointer (some ⟨bx, 12, none⟩)
 v1 : L 1 = true → f 24 = .slice A n c
 v2 : L 2 = true → f 25 = .pointer (some ⟨g, 0, none⟩)
 v6 : L 6 = true → f 29 = .pointer (some ⟨bx, 12, none⟩)
 wz : L 3 = false → w = W1
 w3 : L 3 = true → L 4 = false → R3 (f 26) w
 w4 : L 4 = true → L 5 = false → R4 (f 27) w
 w5 : L 5 = true → L 7 = false → R5 (f 28) w
 w7 : L 7 = true → R7 w
 d4_3 : L 4 = true → L 3 = true
 d5_4 : L 5 = true → L 4 = true
 d7_5 : L 7 = true → L 5 = true
 d5_1 : L 5 = true → L 1 = true
 d3_2 : L 3 = true → L 2 = true
 d7_6 : L 7 = true → L 6 = true
theorem am8_0 {bx : Nat} {g : Nat} {n : Nat} {c : Nat} {A : Option Addr} {dp : Int} {kk : Int} {W1 : World} {R3 : Value → World → Prop} {R4 : Value → World → Prop} {R5 : Value → World → Prop} {R7 : World → Prop} {L : Nat → Bool} {f : Nat → Value} {w : World} (h : am8C bx g n c A dp kk W1 R3 R4 R5 R7 L f w) : am8C bx g n c A dp kk W1 R3 R4 R5 R7 (fun k => if k = 0 then true else L k) (fun t => if (some 23 : Option Nat) = some t then (.pointer (some ⟨bx, 12, none⟩)) else f t) w where
 v0 := fun _ => by simp
 v1 := by simpa using h.v1
 v2 := by simpa using h.v2
 v6 := by simpa using h.v6
 wz := by simpa using h.wz
 w3 := by simpa using h.w3
 w4 := by simpa using h.w4
 w5 := by simpa using h.w5
 w7 := by simpa using h.w7
 d4_3 := by simpa using h.d4_3
 d5_4 := by simpa using h.d5_4
 d7_5 := by simpa using h.d7_5
 d5_1 := by simpa using h.d5_1
 d3_2 := by simpa using h.d3_2
 d7_6 := by simpa using h.d7_6
theorem am8_1 {bx : Nat} {g : Nat} {n : Nat} {c : Nat} {A : Option Addr} {dp : Int} {kk : Int} {W1 : World} {R3 : Value → World → Prop} {R4 : Value → World → Prop} {R5 : Value → World → Prop} {R7 : World → Prop} {L : Nat → Bool} {f : Nat → Value} {w : World} (h : am8C bx g n c A dp kk W1 R3 R4 R5 R7 L f w) : am8C bx g n c A dp kk W1 R3 R4 R5 R7 (fun k => if k = 1 then true else L k) (fun t => if (some 24 : Option Nat) = some t then (.slice A n c) else f t) w where
 v0 := by simpa using h.v0
 v1 := fun _ => by simp
 v2 := by simpa using h.v2
 v6 := by simpa using h.v6
 wz := by simpa using h.wz
 w3 := by simpa using h.w3
 w4 := by simpa using h.w4
 w5 := by simpa using h.w5
 w7 := by simpa using h.w7
 d4_3 := by simpa using h.d4_3
 d5_4 := by simpa using h.d5_4
 d7_5 := by simpa using h.d7_5
 d5_1 := fun _ => by simp
 d3_2 := by simpa using h.d3_2
 d7_6 := by simpa using h.d7_6
theorem am8_2 {bx : Nat} {g : Nat} {n : Nat} {c : Nat} {A : Option Addr} {dp : Int} {kk : Int} {W1 : World} {R3 : Value → World → Prop} {R4 : Value → World → Prop} {R5 : Value → World → Prop} {R7 : World → Prop} {L : Nat → Bool} {f : Nat → Value} {w : World} (h : am8C bx g n c A dp kk W1 R3 R4 R5 R7 L f w) : am8C bx g n c A dp kk W1 R3 R4 R5 R7 (fun k => if k = 2 then true else L k) (fun t => if (some 25 : Option Nat) = some t then (.pointer (some ⟨g, 0, none⟩)) else f t) w where
 v0 := by simpa using h.v0
 v1 := by simpa using h.v1
 v2 := fun _ => by simp
 v6 := by simpa using h.v6
 wz := by simpa using h.wz
 w3 := by simpa using h.w3
 w4 := by simpa using h.w4
 w5 := by simpa using h.w5
 w7 := by simpa using h.w7
 d4_3 := by simpa using h.d4_3
 d5_4 := by simpa using h.d5_4
 d7_5 := by simpa using h.d7_5
 d5_1 := by simpa using h.d5_1
 d3_2 := fun _ => by simp
 d7_6 := by simpa using h.d7_6
theorem am8_3 {bx : Nat} {g : Nat} {n : Nat} {c : Nat} {A : Option Addr} {dp : Int} {kk : Int} {W1 : World} {R3 : Value → World → Prop} {R4 : Value → World → Prop} {R5 : Value → World → Prop} {R7 : World → Prop} {L : Nat → Bool} {f : Nat → Value} {w : World} {v : Value} {w2 : World} (h : am8C bx g n c A dp kk W1 R3 R4 R5 R7 L f w) (h3 : L 3 = false) (h2 : L 2 = true) (hp : R3 v w2) : am8C bx g n c A dp kk W1 R3 R4 R5 R7 (fun k => if k = 3 then true else L k) (fun t => if (some 26 : Option Nat) = some t then v else f t) w2 := by
 have h4 : L 4 = false := by cases hh : L 4 with | false => rfl | true => exact absurd (h.d4_3 hh) (by rw [h3]; decide)
 have h5 : L 5 = false := by cases hh : L 5 with | false => rfl | true => exact absurd (h.d5_4 hh) (by rw [h4]; decide)
 have h7 : L 7 = false := by cases hh : L 7 with | false => rfl | true => exact absurd (h.d7_5 hh) (by rw [h5]; decide)
 constructor
 ·simpa using h.v0
 ·simpa using h.v1
 ·simpa using h.v2
 ·simpa using h.v6
 ·intro hh; simp at hh
 ·intro _ _; simpa using hp
 ·intro hh _; simp [h4] at hh
 ·intro hh _; simp [h5] at hh
 ·intro hh; simp [h7] at hh
 ·intro _; simp
 ·simpa using h.d5_4
 ·simpa using h.d7_5
 ·simpa using h.d5_1
 ·intro _; simpa using h2
 ·simpa using h.d7_6
theorem am8_4 {bx : Nat} {g : Nat} {n : Nat} {c : Nat} {A : Option Addr} {dp : Int} {kk : Int} {W1 : World} {R3 : Value → World → Prop} {R4 : Value → World → Prop} {R5 : Value → World → Prop} {R7 : World → Prop} {L : Nat → Bool} {f : Nat → Value} {w : World} {v : Value} {w2 : World} (h : am8C bx g n c A dp kk W1 R3 R4 R5 R7 L f w) (h3 : L 3 = true) (h4 : L 4 = false) (hp : R4 v w2) : am8C bx g n c A dp kk W1 R3 R4 R5 R7 (fun k => if k = 4 then true else L k) (fun t => if (some 27 : Option Nat) = some t then v else f t) w2 := by
 have h5 : L 5 = false := by cases hh : L 5 with | false => rfl | true => exact absurd (h.d5_4 hh) (by rw [h4]; decide)
 have h7 : L 7 = false := by cases hh : L 7 with | false => rfl | true => exact absurd (h.d7_5 hh) (by rw [h5]; decide)
 constructor
 ·simpa using h.v0
 ·simpa using h.v1
 ·simpa using h.v2
 ·simpa using h.v6
 ·intro hh; simp [h3] at hh
 ·intro _ hh; simp at hh
 ·intro _ _; simpa using hp
 ·intro hh _; simp [h5] at hh
 ·intro hh; simp [h7] at hh
 ·intro _; simpa using h3
 ·intro _; simp
 ·simpa using h.d7_5
 ·simpa using h.d5_1
 ·simpa using h.d3_2
 ·simpa using h.d7_6
theorem am8_5 {bx : Nat} {g : Nat} {n : Nat} {c : Nat} {A : Option Addr} {dp : Int} {kk : Int} {W1 : World} {R3 : Value → World → Prop} {R4 : Value → World → Prop} {R5 : Value → World → Prop} {R7 : World → Prop} {L : Nat → Bool} {f : Nat → Value} {w : World} {v : Value} {w2 : World} (h : am8C bx g n c A dp kk W1 R3 R4 R5 R7 L f w) (h3 : L 3 = true) (h4 : L 4 = true) (h5 : L 5 = false) (h1 : L 1 = true) (hp : R5 v w2) : am8C bx g n c A dp kk W1 R3 R4 R5 R7 (fun k => if k = 5 then true else L k) (fun t => if (some 28 : Option Nat) = some t then v else f t) w2 := by
 have h7 : L 7 = false := by cases hh : L 7 with | false => rfl | true => exact absurd (h.d7_5 hh) (by rw [h5]; decide)
 constructor
 ·simpa using h.v0
 ·simpa using h.v1
 ·simpa using h.v2
 ·simpa using h.v6
 ·intro hh; simp [h3] at hh
 ·intro _ hh; simp [h4] at hh
 ·intro _ hh; simp at hh
 ·intro _ _; simpa using hp
 ·intro hh; simp [h7] at hh
 ·simpa using h.d4_3
 ·intro _; simpa using h4
 ·intro _; simp
 ·intro _; simpa using h1
 ·simpa using h.d3_2
 ·simpa using h.d7_6
theorem am8_6 {bx : Nat} {g : Nat} {n : Nat} {c : Nat} {A : Option Addr} {dp : Int} {kk : Int} {W1 : World} {R3 : Value → World → Prop} {R4 : Value → World → Prop} {R5 : Value → World → Prop} {R7 : World → Prop} {L : Nat → Bool} {f : Nat → Value} {w : World} (h : am8C bx g n c A dp kk W1 R3 R4 R5 R7 L f w) : am8C bx g n c A dp kk W1 R3 R4 R5 R7 (fun k => if k = 6 then true else L k) (fun t => if (some 29 : Option Nat) = some t then (.pointer (some ⟨bx, 12, none⟩)) else f t) w where
 v0 := by simpa using h.v0
 v1 := by simpa using h.v1
 v2 := by simpa using h.v2
 v6 := fun _ => by simp
 wz := by simpa using h.wz
 w3 := by simpa using h.w3
 w4 := by simpa using h.w4
 w5 := by simpa using h.w5
 w7 := by simpa using h.w7
 d4_3 := by simpa using h.d4_3
 d5_4 := by simpa using h.d5_4
 d7_5 := by simpa using h.d7_5
 d5_1 := by simpa using h.d5_1
 d3_2 := by simpa using h.d3_2
 d7_6 := fun _ => by simp
theorem am8_7 {bx : Nat} {g : Nat} {n : Nat} {c : Nat} {A : Option Addr} {dp : Int} {kk : Int} {W1 : World} {R3 : Value → World → Prop} {R4 : Value → World → Prop} {R5 : Value → World → Prop} {R7 : World → Prop} {L : Nat → Bool} {f : Nat → Value} {w : World} {v : Value} {w2 : World} (h : am8C bx g n c A dp kk W1 R3 R4 R5 R7 L f w) (h3 : L 3 = true) (h4 : L 4 = true) (h5 : L 5 = true) (h7 : L 7 = false) (h6 : L 6 = true) (hp : R7 w2) : am8C bx g n c A dp kk W1 R3 R4 R5 R7 (fun k => if k = 7 then true else L k) (fun t => if (none : Option Nat) = some t then v else f t) w2 := by
 constructor
 ·simpa using h.v0
 ·simpa using h.v1
 ·simpa using h.v2
 ·simpa using h.v6
 ·intro hh; simp [h3] at hh
 ·intro _ hh; simp [h4] at hh
 ·intro _ hh; simp [h5] at hh
 ·intro _ hh; simp at hh
 ·intro _; simpa using hp
 ·simpa using h.d4_3
 ·simpa using h.d5_4
 ·intro _; simpa using h5
 ·simpa using h.d5_1
 ·simpa using h.d3_2
 ·intro _; simpa using h6
def am8Us (f : Nat → Value) : List (Nat × Value) := [(23, f 23), (24, f 24), (25, f 25), (26, f 26), (27, f 27), (28, f 28), (29, f 29)]
set_option maxRecDepth 10000 in
set_option maxHeartbeats 1000000 in
theorem am8_reg {bx g n c base : Nat} {A : Option Addr} {dp kk : Int} {W : World} {xs : List Value} {R1 : Bool → World → Prop} {R4 : World → Prop} {A0 : Act} {Q : Exit → Act → World → Prop} {id : Nat} (ab : Act.at A0 7 = .pointer (some ⟨bx, 0, none⟩)) (a0 : Act.at A0 0 = .pointer (some ⟨g, 0, none⟩)) (hsz : 30 ≤ A0.tmps.size) (hB : W.drew.cell? ⟨bx, 12, none⟩ = some (.slice A n c)) (hn : n ≤ 1048576) (hadd : ∀ w, (binOp .add 3 (.int .i64 dp) (.int .i64 1)).run Tryz.prog w = .ok (.int .i64 (dp + 1)) w)
  (HC : Calls Tryz.prog 86 #[.pointer (some ⟨g, 0, none⟩), .int .i64 1, .string { data := #[108, 97, 115, 116] }] W.drew fun e w' => ∃ v, e = .returned v ∧ (fun u w => ∃ y : Bool, u = .bool y ∧ R1 y w) v w')
  (hR1 : ∀ y w, R1 y w → w.cell? ⟨bx, 12, none⟩ = some (.slice A n c) ∧ w.frozen? ⟨bx, 12, none⟩ = false ∧ w.ownsRow base 4 1 (.slice A n c) n xs ∧ base ≤ w.heap.size ∧ bx < w.heap.size)
  (hR3 : ∀ y w, R1 y w → ∀ g9 c9 w', w'.ownsRow base 4 1 (.slice (some ⟨g9, 0, none⟩) (n + 1) c9) (n + 1) (xs ++ [Value.bool y]) → (w.alloc (.cells ([Value.bool y]).toArray 4)).grownBy w' (Value.slice A n c).ownBlock → ((Value.slice A n c).ownBlock = some g9 ∨ g9 = (w.alloc (.cells ([Value.bool y]).toArray 4)).heap.size) → w'.cell? ⟨bx, 12, none⟩ = some (.slice A n c) ∧ w'.frozen? ⟨bx, 12, none⟩ = false ∧ R4 (w'.setCell ⟨bx, 12, none⟩ (.slice (some ⟨g9, 0, none⟩) (n + 1) c9)))
  (hk : ∀ (f : Nat → Value) w', R4 w' → Q .normal ⟨(am8Us f).foldl (fun A p => A.setIfInBounds p.1 p.2) A0.tmps, A0.defers⟩ w') :
  (Code.region id am8Ops true).wp Tryz.prog Q A0 W := by
 refine wp_region_fun (by kernel_rfl) (fun L f w => am8C bx g n c A dp kk W.drew (fun u w => ∃ y : Bool, u = .bool y ∧ R1 y w) (fun u w => ∃ y w1, R1 y w1 ∧ u = .slice (some ⟨w1.heap.size, 0, none⟩) 1 1 ∧ w = w1.alloc (.cells ([Value.bool y]).toArray 4)) (fun u w => ∃ g9 c9, u = .slice (some ⟨g9, 0, none⟩) (n + 1) c9 ∧ w.cell? ⟨bx, 12, none⟩ = some (.slice A n c) ∧ w.frozen? ⟨bx, 12, none⟩ = false ∧ R4 (w.setCell ⟨bx, 12, none⟩ (.slice (some ⟨g9, 0, none⟩) (n + 1) c9))) R4 L f w) [23, 24, 25, 26, 27, 28, 29] (wf_ops2 (by kernel_rfl)) (fun i o ho u hu => ?_) ?_ ?_ ?_
 ·have := ops_dst [23, 24, 25, 26, 27, 28, 29] 30 (by kernel_rfl) i o ho u hu
  exact ⟨this.1, Nat.lt_of_lt_of_le this.2 hsz⟩
 ·have hs : am8Ops.size = 8 := rfl
  rw [hs]
  constructor <;> first | exact (fun _ => rfl) | (intro h; simp at h) | (intro h h2; simp at h)
 ·rintro L i o ho hLi haf b w hf hc K hK
  have hdep := ops_deps am8Dep (by kernel_rfl) ho haf
  clear haf
  have hs : am8Ops.size = 8 := rfl
  have hlt : i < 8 := hs ▸ (Array.getElem?_eq_some_iff.1 ho).1
  have hcases : i = 0 ∨ i = 1 ∨ i = 2 ∨ i = 3 ∨ i = 4 ∨ i = 5 ∨ i = 6 ∨ i = 7 := by omega
  rcases hcases with rfl | rfl | rfl | rfl | rfl | rfl | rfl | rfl
  ·obtain ⟨h1, h2⟩ := op_at2 ho (show (am8Ops[0]?).map (fun o => (o.dst, o.op)) = some ((some 23), (Op.fieldAddr 54 (Operand.tmp 7) 10)) by kernel_rfl)
   rw [h1] at hK
   refine wp_fieldG _ _ _ h2 _ _ ((hf 7 (by decide)).trans ab) (show (Instr.fieldAt 54 (.pointer (some ⟨bx, 0, none⟩)) 10).run Tryz.prog w = .ok (.pointer (some ⟨bx, 12, none⟩)) w from by kernel_rfl) ?_
   rw [h1]
   exact hK _ _ (am8_0 hc)
  ·obtain ⟨h1, h2⟩ := op_at2 ho (show (am8Ops[1]?).map (fun o => (o.dst, o.op)) = some ((some 24), (Op.load 50 (Operand.tmp 23))) by kernel_rfl)
   rw [h1] at hK
   have l0 : L 0 = true := hdep 0 (by simp [am8Dep])
   have hcell : w.cell? ⟨bx, 12, none⟩ = some (.slice A n c) := by
    cases hq4 : L 3 with
    | false => rw [hc.wz hq4]; exact hB
    | true =>
     cases hq5 : L 4 with
     | false => obtain ⟨y, _, hy⟩ := hc.w3 hq4 hq5; exact (hR1 y w hy).1
     | true =>
      cases hq6 : L 5 with
      | true => exact absurd (hc.d5_1 hq6) (by rw [hLi]; decide)
      | false =>
       obtain ⟨y, w1, hy, _, rfl⟩ := hc.w4 hq5 hq6
       have h1c := (hR1 y w1 hy).1
       have hal : Below w1.heap.size w1 (w1.alloc (.cells ([Value.bool y]).toArray 4)) := al_below _ _
       exact (World.cell?_of_block (w := w1) (a := ⟨bx, 12, none⟩) (hal.block bx (hR1 y w1 hy).2.2.2.2)).trans h1c
   refine wp_loadG _ _ h2 _ _ (hc.v0 l0) (load_slB hcell) ?_
   rw [h1]
   exact hK _ _ (am8_1 hc)
  ·obtain ⟨h1, h2⟩ := op_at2 ho (show (am8Ops[2]?).map (fun o => (o.dst, o.op)) = some ((some 25), (Op.move (Operand.tmp 0))) by kernel_rfl)
   rw [h1] at hK
   refine wp_moveG _ h2 _ ((hf 0 (by decide)).trans a0) ?_
   rw [h1]
   exact hK _ _ (am8_2 hc)
  ·obtain ⟨h1, h2⟩ := op_at2 ho (show (am8Ops[3]?).map (fun o => (o.dst, o.op)) = some ((some 26), (Op.call { callee := Callee.value (Operand.func 86), args := #[Operand.tmp 25, Operand.const (Value.int IntKind.i64 1), Operand.const (Value.string { data := #[108, 97, 115, 116] })], argTypes := #[99, 3, 9] })) by kernel_rfl)
   rw [h1] at hK
   have l2 : L 2 = true := hdep 2 (by simp [am8Dep])
   obtain rfl := hc.wz hLi
   refine wp_callG 86 _ _ h2 (enters_of Tryz.func86 (by kernel_rfl) rfl) #[.pointer (some ⟨g, 0, none⟩), .int .i64 1, .string { data := #[108, 97, 115, 116] }] (by simp [show b.eval (.tmp 25) = _ from hc.v2 l2, show b.eval (Operand.const (Value.int IntKind.i64 1)) = Value.int IntKind.i64 1 from rfl, show b.eval (Operand.const (Value.string { data := #[108, 97, 115, 116] })) = Value.string { data := #[108, 97, 115, 116] } from rfl]) _ HC ?_
   intro v w2 hp
   rw [h1]
   exact hK _ _ (am8_3 hc hLi l2 hp)
  ·obtain ⟨h1, h2⟩ := op_at2 ho (show (am8Ops[4]?).map (fun o => (o.dst, o.op)) = some ((some 27), (Op.buildSlice 50 1 #[(0, Operand.tmp 26)])) by kernel_rfl)
   rw [h1] at hK
   have l3 : L 3 = true := hdep 3 (by simp [am8Dep])
   have lq : L 4 = false := hLi
   obtain ⟨y, hy0, hy⟩ := hc.w3 l3 lq
   refine wp_bldB 26 h2 y hy0 ?_
   rw [h1]
   exact hK _ _ (am8_4 hc l3 hLi ⟨y, _, hy, rfl, rfl⟩)
  ·obtain ⟨h1, h2⟩ := op_at2 ho (show (am8Ops[5]?).map (fun o => (o.dst, o.op)) = some ((some 28), (Op.call { callee := Callee.builtin Builtin.append, args := #[Operand.tmp 24, Operand.tmp 27], argTypes := #[50, 50] })) by kernel_rfl)
   rw [h1] at hK
   have l1 : L 1 = true := hdep 1 (by simp [am8Dep])
   have l4 : L 4 = true := hdep 4 (by simp [am8Dep])
   have l3 := hc.d4_3 l4
   obtain ⟨y, w1, hy, hu, rfl⟩ := hc.w4 l4 hLi
   obtain ⟨hq1, hq2, hq3, hq4, _⟩ := hR1 y w1 hy
   have hal : Below w1.heap.size w1 (w1.alloc (.cells ([Value.bool y]).toArray 4)) := al_below _ _
   have h4 : (am8Ops[5]?).map (·.type) = some 50 := by kernel_rfl
   rw [ho] at h4
   replace h4 := Option.some.inj h4
   simp only at h4
   refine wp_appB _ _ h2 h4 base (.slice A n c) n xs (hc.v1 l1) (owns_chg hq3 (Chg.of_below hal (fun _ => False)) (fun _ _ h => h)) w1.heap.size y hu (heap_alloc_new w1 _) hn (Nat.le_trans hq4 hal.size) ?_
   intro g9 c9 w2 hown hgr hat
   rw [h1]
   exact hK _ _ (am8_5 hc l3 l4 hLi l1 (by obtain ⟨e1, e2, e3⟩ := hR3 y w1 hy g9 c9 w2 hown hgr hat; exact ⟨g9, c9, rfl, e1, e2, e3⟩))
  ·obtain ⟨h1, h2⟩ := op_at2 ho (show (am8Ops[6]?).map (fun o => (o.dst, o.op)) = some ((some 29), (Op.fieldAddr 54 (Operand.tmp 7) 10)) by kernel_rfl)
   rw [h1] at hK
   refine wp_fieldG _ _ _ h2 _ _ ((hf 7 (by decide)).trans ab) (show (Instr.fieldAt 54 (.pointer (some ⟨bx, 0, none⟩)) 10).run Tryz.prog w = .ok (.pointer (some ⟨bx, 12, none⟩)) w from by kernel_rfl) ?_
   rw [h1]
   exact hK _ _ (am8_6 hc)
  ·obtain ⟨h1, h2⟩ := op_at2 ho (show (am8Ops[7]?).map (fun o => (o.dst, o.op)) = some (none, (Op.store 50 (Operand.tmp 29) (Operand.tmp 28))) by kernel_rfl)
   rw [h1] at hK
   have l6 : L 6 = true := hdep 6 (by simp [am8Dep])
   have l5 : L 5 = true := hdep 5 (by simp [am8Dep])
   have l4 := hc.d5_4 l5
   have l3 := hc.d4_3 l4
   obtain ⟨g9, c9, hv, hcl, hfz, h13⟩ := hc.w5 l5 hLi
   refine wp_stB _ _ h2 ⟨bx, 12, none⟩ (hc.v6 l6) (some ⟨g9, 0, none⟩) (n + 1) c9 hv (.slice A n c) hcl hfz ?_
   rw [h1]
   exact hK _ _ (am8_7 hc l3 l4 l5 hLi l6 h13)
 ·rintro L b w hL hd hs hf hc
  have hsz2 : am8Ops.size = 8 := rfl
  rw [hsz2] at hL
  have e := act_eq (a := A0) (b := b) (am8Us (Act.at b)) hd hs hf (by
   intro p hp
   simp only [am8Us, List.mem_cons, List.not_mem_nil, or_false] at hp
   rcases hp with rfl | rfl | rfl | rfl | rfl | rfl | rfl <;> rfl) (by rw [show (am8Us (Act.at b)).map (·.1) = [23, 24, 25, 26, 27, 28, 29] from rfl]; decide)
  rw [e]
  exact hk (Act.at b) w (hc.w7 (hL 7 (by omega)))
def am9Ops : Array Oper := #[{ dst := some 30, op := Op.fieldAddr 54 (Operand.tmp 7) 9, type := 0, pos := "kind.go:193", after := #[], guard := none }, { dst := some 31, op := Op.load 49 (Operand.tmp 30), type := 49, pos := "kind.go:193", after := #[{ on := 0, ground := Ground.data }], guard := none }, { dst := some 32, op := Op.move (Operand.tmp 0), type := 99, pos := "kind.go:193", after := #[], guard := none }, { dst := some 33, op := Op.move (Operand.tmp 2), type := 3, pos := "kind.go:193", after := #[], guard := none }, { dst := some 34, op := Op.binOp BinOp.add 3 (Operand.tmp 33) (Operand.const (Value.int IntKind.i64 1)) 3, type := 3, pos := "kind.go:193", after := #[{ on := 3, ground := Ground.data }], guard := none }, { dst := some 35, op := Op.call { callee := Callee.value (Operand.func 54), args := #[Operand.tmp 32, Operand.tmp 34], argTypes := #[99, 3] }, type := 3, pos := "kind.go:193", after := #[{ on := 2, ground := Ground.data }, { on := 4, ground := Ground.data }], guard := none }, { dst := some 36, op := Op.buildSlice 49 1 #[(0, Operand.tmp 35)], type := 49, pos := "kind.go:193", after := #[{ on := 5, ground := Ground.data }], guard := none }, { dst := some 37, op := Op.call { callee := Callee.builtin Builtin.append, args := #[Operand.tmp 31, Operand.tmp 36], argTypes := #[49, 49] }, type := 49, pos := "kind.go:193", after := #[{ on := 1, ground := Ground.data }, { on := 6, ground := Ground.data }, { on := 5, ground := Ground.chain }], guard := none }, { dst := some 38, op := Op.fieldAddr 54 (Operand.tmp 7) 9, type := 0, pos := "kind.go:193", after := #[{ on := 0, ground := Ground.phase }, { on := 1, ground := Ground.phase }, { on := 2, ground := Ground.phase }, { on := 3, ground := Ground.phase }, { on := 4, ground := Ground.phase }, { on := 5, ground := Ground.phase }, { on := 6, ground := Ground.phase }, { on := 7, ground := Ground.phase }], guard := none }, { dst := none, op := Op.store 49 (Operand.tmp 38) (Operand.tmp 37), type := 0, pos := "kind.go:193", after := #[{ on := 8, ground := Ground.data }, { on := 7, ground := Ground.data }, { on := 7, ground := Ground.chain }, { on := 0, ground := Ground.phase }, { on := 1, ground := Ground.phase }, { on := 2, ground := Ground.phase }, { on := 3, ground := Ground.phase }, { on := 4, ground := Ground.phase }, { on := 5, ground := Ground.phase }, { on := 6, ground := Ground.phase }, { on := 7, ground := Ground.phase }], guard := none }]
def am9Dep : Nat → List Nat := fun i => match i with | 1 => [0] | 4 => [3] | 5 => [2, 4] | 6 => [5] | 7 => [1, 6] | 9 => [8, 7] | _ => []
structure am9C (bx : Nat) (g : Nat) (n : Nat) (c : Nat) (A : Option Addr) (dp : Int) (kk : Int) (W1 : World) (R5 : Value → World → Prop) (R6 : Value → World → Prop) (R7 : Value → World → Prop) (R9 : World → Prop) (L : Nat → Bool) (f : Nat → Value) (w : World) : Prop where
 v0 : L 0 = true → f 30 = .pointer (some ⟨bx, 11, none⟩)
 v1 : L 1 = true → f 31 = .slice A n c
 v2 : L 2 = true → f 32 = .pointer (some ⟨g, 0, none⟩)
 v3 : L 3 = true → f 33 = .int .i64 dp
 v4 : L 4 = true → f 34 = .int .i64 (dp + 1)
 v8 : L 8 = true → f 38 = .pointer (some ⟨bx, 11, none⟩)
 wz : L 5 = false → w = W1
 w5 : L 5 = true → L 6 = false → R5 (f 35) w
 w6 : L 6 = true → L 7 = false → R6 (f 36) w
 w7 : L 7 = true → L 9 = false → R7 (f 37) w
 w9 : L 9 = true → R9 w
 d6_5 : L 6 = true → L 5 = true
 d7_6 : L 7 = true → L 6 = true
 d9_7 : L 9 = true → L 7 = true
 d7_1 : L 7 = true → L 1 = true
 d5_2 : L 5 = true → L 2 = true
 d5_4 : L 5 = true → L 4 = true
 d9_8 : L 9 = true → L 8 = true
theorem am9_0 {bx : Nat} {g : Nat} {n : Nat} {c : Nat} {A : Option Addr} {dp : Int} {kk : Int} {W1 : World} {R5 : Value → World → Prop} {R6 : Value → World → Prop} {R7 : Value → World → Prop} {R9 : World → Prop} {L : Nat → Bool} {f : Nat → Value} {w : World} (h : am9C bx g n c A dp kk W1 R5 R6 R7 R9 L f w) : am9C bx g n c A dp kk W1 R5 R6 R7 R9 (fun k => if k = 0 then true else L k) (fun t => if (some 30 : Option Nat) = some t then (.pointer (some ⟨bx, 11, none⟩)) else f t) w where
 v0 := fun _ => by simp
 v1 := by simpa using h.v1
 v2 := by simpa using h.v2
 v3 := by simpa using h.v3
 v4 := by simpa using h.v4
 v8 := by simpa using h.v8
 wz := by simpa using h.wz
 w5 := by simpa using h.w5
 w6 := by simpa using h.w6
 w7 := by simpa using h.w7
 w9 := by simpa using h.w9
 d6_5 := by simpa using h.d6_5
 d7_6 := by simpa using h.d7_6
 d9_7 := by simpa using h.d9_7
 d7_1 := by simpa using h.d7_1
 d5_2 := by simpa using h.d5_2
 d5_4 := by simpa using h.d5_4
 d9_8 := by simpa using h.d9_8
theorem am9_1 {bx : Nat} {g : Nat} {n : Nat} {c : Nat} {A : Option Addr} {dp : Int} {kk : Int} {W1 : World} {R5 : Value → World → Prop} {R6 : Value → World → Prop} {R7 : Value → World → Prop} {R9 : World → Prop} {L : Nat → Bool} {f : Nat → Value} {w : World} (h : am9C bx g n c A dp kk W1 R5 R6 R7 R9 L f w) : am9C bx g n c A dp kk W1 R5 R6 R7 R9 (fun k => if k = 1 then true else L k) (fun t => if (some 31 : Option Nat) = some t then (.slice A n c) else f t) w where
 v0 := by simpa using h.v0
 v1 := fun _ => by simp
 v2 := by simpa using h.v2
 v3 := by simpa using h.v3
 v4 := by simpa using h.v4
 v8 := by simpa using h.v8
 wz := by simpa using h.wz
 w5 := by simpa using h.w5
 w6 := by simpa using h.w6
 w7 := by simpa using h.w7
 w9 := by simpa using h.w9
 d6_5 := by simpa using h.d6_5
 d7_6 := by simpa using h.d7_6
 d9_7 := by simpa using h.d9_7
 d7_1 := fun _ => by simp
 d5_2 := by simpa using h.d5_2
 d5_4 := by simpa using h.d5_4
 d9_8 := by simpa using h.d9_8
theorem am9_2 {bx : Nat} {g : Nat} {n : Nat} {c : Nat} {A : Option Addr} {dp : Int} {kk : Int} {W1 : World} {R5 : Value → World → Prop} {R6 : Value → World → Prop} {R7 : Value → World → Prop} {R9 : World → Prop} {L : Nat → Bool} {f : Nat → Value} {w : World} (h : am9C bx g n c A dp kk W1 R5 R6 R7 R9 L f w) : am9C bx g n c A dp kk W1 R5 R6 R7 R9 (fun k => if k = 2 then true else L k) (fun t => if (some 32 : Option Nat) = some t then (.pointer (some ⟨g, 0, none⟩)) else f t) w where
 v0 := by simpa using h.v0
 v1 := by simpa using h.v1
 v2 := fun _ => by simp
 v3 := by simpa using h.v3
 v4 := by simpa using h.v4
 v8 := by simpa using h.v8
 wz := by simpa using h.wz
 w5 := by simpa using h.w5
 w6 := by simpa using h.w6
 w7 := by simpa using h.w7
 w9 := by simpa using h.w9
 d6_5 := by simpa using h.d6_5
 d7_6 := by simpa using h.d7_6
 d9_7 := by simpa using h.d9_7
 d7_1 := by simpa using h.d7_1
 d5_2 := fun _ => by simp
 d5_4 := by simpa using h.d5_4
 d9_8 := by simpa using h.d9_8
theorem am9_3 {bx : Nat} {g : Nat} {n : Nat} {c : Nat} {A : Option Addr} {dp : Int} {kk : Int} {W1 : World} {R5 : Value → World → Prop} {R6 : Value → World → Prop} {R7 : Value → World → Prop} {R9 : World → Prop} {L : Nat → Bool} {f : Nat → Value} {w : World} (h : am9C bx g n c A dp kk W1 R5 R6 R7 R9 L f w) : am9C bx g n c A dp kk W1 R5 R6 R7 R9 (fun k => if k = 3 then true else L k) (fun t => if (some 33 : Option Nat) = some t then (.int .i64 dp) else f t) w where
 v0 := by simpa using h.v0
 v1 := by simpa using h.v1
 v2 := by simpa using h.v2
 v3 := fun _ => by simp
 v4 := by simpa using h.v4
 v8 := by simpa using h.v8
 wz := by simpa using h.wz
 w5 := by simpa using h.w5
 w6 := by simpa using h.w6
 w7 := by simpa using h.w7
 w9 := by simpa using h.w9
 d6_5 := by simpa using h.d6_5
 d7_6 := by simpa using h.d7_6
 d9_7 := by simpa using h.d9_7
 d7_1 := by simpa using h.d7_1
 d5_2 := by simpa using h.d5_2
 d5_4 := by simpa using h.d5_4
 d9_8 := by simpa using h.d9_8
theorem am9_4 {bx : Nat} {g : Nat} {n : Nat} {c : Nat} {A : Option Addr} {dp : Int} {kk : Int} {W1 : World} {R5 : Value → World → Prop} {R6 : Value → World → Prop} {R7 : Value → World → Prop} {R9 : World → Prop} {L : Nat → Bool} {f : Nat → Value} {w : World} (h : am9C bx g n c A dp kk W1 R5 R6 R7 R9 L f w) : am9C bx g n c A dp kk W1 R5 R6 R7 R9 (fun k => if k = 4 then true else L k) (fun t => if (some 34 : Option Nat) = some t then (.int .i64 (dp + 1)) else f t) w where
 v0 := by simpa using h.v0
 v1 := by simpa using h.v1
 v2 := by simpa using h.v2
 v3 := by simpa using h.v3
 v4 := fun _ => by simp
 v8 := by simpa using h.v8
 wz := by simpa using h.wz
 w5 := by simpa using h.w5
 w6 := by simpa using h.w6
 w7 := by simpa using h.w7
 w9 := by simpa using h.w9
 d6_5 := by simpa using h.d6_5
 d7_6 := by simpa using h.d7_6
 d9_7 := by simpa using h.d9_7
 d7_1 := by simpa using h.d7_1
 d5_2 := by simpa using h.d5_2
 d5_4 := fun _ => by simp
 d9_8 := by simpa using h.d9_8
theorem am9_5 {bx : Nat} {g : Nat} {n : Nat} {c : Nat} {A : Option Addr} {dp : Int} {kk : Int} {W1 : World} {R5 : Value → World → Prop} {R6 : Value → World → Prop} {R7 : Value → World → Prop} {R9 : World → Prop} {L : Nat → Bool} {f : Nat → Value} {w : World} {v : Value} {w2 : World} (h : am9C bx g n c A dp kk W1 R5 R6 R7 R9 L f w) (h5 : L 5 = false) (h2 : L 2 = true) (h4 : L 4 = true) (hp : R5 v w2) : am9C bx g n c A dp kk W1 R5 R6 R7 R9 (fun k => if k = 5 then true else L k) (fun t => if (some 35 : Option Nat) = some t then v else f t) w2 := by
 have h6 : L 6 = false := by cases hh : L 6 with | false => rfl | true => exact absurd (h.d6_5 hh) (by rw [h5]; decide)
 have h7 : L 7 = false := by cases hh : L 7 with | false => rfl | true => exact absurd (h.d7_6 hh) (by rw [h6]; decide)
 have h9 : L 9 = false := by cases hh : L 9 with | false => rfl | true => exact absurd (h.d9_7 hh) (by rw [h7]; decide)
 constructor
 ·simpa using h.v0
 ·simpa using h.v1
 ·simpa using h.v2
 ·simpa using h.v3
 ·simpa using h.v4
 ·simpa using h.v8
 ·intro hh; simp at hh
 ·intro _ _; simpa using hp
 ·intro hh _; simp [h6] at hh
 ·intro hh _; simp [h7] at hh
 ·intro hh; simp [h9] at hh
 ·intro _; simp
 ·simpa using h.d7_6
 ·simpa using h.d9_7
 ·simpa using h.d7_1
 ·intro _; simpa using h2
 ·intro _; simpa using h4
 ·simpa using h.d9_8
theorem am9_6 {bx : Nat} {g : Nat} {n : Nat} {c : Nat} {A : Option Addr} {dp : Int} {kk : Int} {W1 : World} {R5 : Value → World → Prop} {R6 : Value → World → Prop} {R7 : Value → World → Prop} {R9 : World → Prop} {L : Nat → Bool} {f : Nat → Value} {w : World} {v : Value} {w2 : World} (h : am9C bx g n c A dp kk W1 R5 R6 R7 R9 L f w) (h5 : L 5 = true) (h6 : L 6 = false) (hp : R6 v w2) : am9C bx g n c A dp kk W1 R5 R6 R7 R9 (fun k => if k = 6 then true else L k) (fun t => if (some 36 : Option Nat) = some t then v else f t) w2 := by
 have h7 : L 7 = false := by cases hh : L 7 with | false => rfl | true => exact absurd (h.d7_6 hh) (by rw [h6]; decide)
 have h9 : L 9 = false := by cases hh : L 9 with | false => rfl | true => exact absurd (h.d9_7 hh) (by rw [h7]; decide)
 constructor
 ·simpa using h.v0
 ·simpa using h.v1
 ·simpa using h.v2
 ·simpa using h.v3
 ·simpa using h.v4
 ·simpa using h.v8
 ·intro hh; simp [h5] at hh
 ·intro _ hh; simp at hh
 ·intro _ _; simpa using hp
 ·intro hh _; simp [h7] at hh
 ·intro hh; simp [h9] at hh
 ·intro _; simpa using h5
 ·intro _; simp
 ·simpa using h.d9_7
 ·simpa using h.d7_1
 ·simpa using h.d5_2
 ·simpa using h.d5_4
 ·simpa using h.d9_8
theorem am9_7 {bx : Nat} {g : Nat} {n : Nat} {c : Nat} {A : Option Addr} {dp : Int} {kk : Int} {W1 : World} {R5 : Value → World → Prop} {R6 : Value → World → Prop} {R7 : Value → World → Prop} {R9 : World → Prop} {L : Nat → Bool} {f : Nat → Value} {w : World} {v : Value} {w2 : World} (h : am9C bx g n c A dp kk W1 R5 R6 R7 R9 L f w) (h5 : L 5 = true) (h6 : L 6 = true) (h7 : L 7 = false) (h1 : L 1 = true) (hp : R7 v w2) : am9C bx g n c A dp kk W1 R5 R6 R7 R9 (fun k => if k = 7 then true else L k) (fun t => if (some 37 : Option Nat) = some t then v else f t) w2 := by
 have h9 : L 9 = false := by cases hh : L 9 with | false => rfl | true => exact absurd (h.d9_7 hh) (by rw [h7]; decide)
 constructor
 ·simpa using h.v0
 ·simpa using h.v1
 ·simpa using h.v2
 ·simpa using h.v3
 ·simpa using h.v4
 ·simpa using h.v8
 ·intro hh; simp [h5] at hh
 ·intro _ hh; simp [h6] at hh
 ·intro _ hh; simp at hh
 ·intro _ _; simpa using hp
 ·intro hh; simp [h9] at hh
 ·simpa using h.d6_5
 ·intro _; simpa using h6
 ·intro _; simp
 ·intro _; simpa using h1
 ·simpa using h.d5_2
 ·simpa using h.d5_4
 ·simpa using h.d9_8
theorem am9_8 {bx : Nat} {g : Nat} {n : Nat} {c : Nat} {A : Option Addr} {dp : Int} {kk : Int} {W1 : World} {R5 : Value → World → Prop} {R6 : Value → World → Prop} {R7 : Value → World → Prop} {R9 : World → Prop} {L : Nat → Bool} {f : Nat → Value} {w : World} (h : am9C bx g n c A dp kk W1 R5 R6 R7 R9 L f w) : am9C bx g n c A dp kk W1 R5 R6 R7 R9 (fun k => if k = 8 then true else L k) (fun t => if (some 38 : Option Nat) = some t then (.pointer (some ⟨bx, 11, none⟩)) else f t) w where
 v0 := by simpa using h.v0
 v1 := by simpa using h.v1
 v2 := by simpa using h.v2
 v3 := by simpa using h.v3
 v4 := by simpa using h.v4
 v8 := fun _ => by simp
 wz := by simpa using h.wz
 w5 := by simpa using h.w5
 w6 := by simpa using h.w6
 w7 := by simpa using h.w7
 w9 := by simpa using h.w9
 d6_5 := by simpa using h.d6_5
 d7_6 := by simpa using h.d7_6
 d9_7 := by simpa using h.d9_7
 d7_1 := by simpa using h.d7_1
 d5_2 := by simpa using h.d5_2
 d5_4 := by simpa using h.d5_4
 d9_8 := fun _ => by simp
theorem am9_9 {bx : Nat} {g : Nat} {n : Nat} {c : Nat} {A : Option Addr} {dp : Int} {kk : Int} {W1 : World} {R5 : Value → World → Prop} {R6 : Value → World → Prop} {R7 : Value → World → Prop} {R9 : World → Prop} {L : Nat → Bool} {f : Nat → Value} {w : World} {v : Value} {w2 : World} (h : am9C bx g n c A dp kk W1 R5 R6 R7 R9 L f w) (h5 : L 5 = true) (h6 : L 6 = true) (h7 : L 7 = true) (h9 : L 9 = false) (h8 : L 8 = true) (hp : R9 w2) : am9C bx g n c A dp kk W1 R5 R6 R7 R9 (fun k => if k = 9 then true else L k) (fun t => if (none : Option Nat) = some t then v else f t) w2 := by
 constructor
 ·simpa using h.v0
 ·simpa using h.v1
 ·simpa using h.v2
 ·simpa using h.v3
 ·simpa using h.v4
 ·simpa using h.v8
 ·intro hh; simp [h5] at hh
 ·intro _ hh; simp [h6] at hh
 ·intro _ hh; simp [h7] at hh
 ·intro _ hh; simp at hh
 ·intro _; simpa using hp
 ·simpa using h.d6_5
 ·simpa using h.d7_6
 ·intro _; simpa using h7
 ·simpa using h.d7_1
 ·simpa using h.d5_2
 ·simpa using h.d5_4
 ·intro _; simpa using h8
def am9Us (f : Nat → Value) : List (Nat × Value) := [(30, f 30), (31, f 31), (32, f 32), (33, f 33), (34, f 34), (35, f 35), (36, f 36), (37, f 37), (38, f 38)]
set_option maxRecDepth 10000 in
set_option maxHeartbeats 1000000 in
theorem am9_reg {bx g n c base : Nat} {A : Option Addr} {dp kk : Int} {W : World} {xs : List Value} {R1 : Int → World → Prop} {R4 : World → Prop} {A0 : Act} {Q : Exit → Act → World → Prop} {id : Nat} (ab : Act.at A0 7 = .pointer (some ⟨bx, 0, none⟩)) (a0 : Act.at A0 0 = .pointer (some ⟨g, 0, none⟩)) (a2 : Act.at A0 2 = .int .i64 dp) (hsz : 39 ≤ A0.tmps.size) (hB : W.drew.cell? ⟨bx, 11, none⟩ = some (.slice A n c)) (hn : n ≤ 1048576) (hadd : ∀ w, (binOp .add 3 (.int .i64 dp) (.int .i64 1)).run Tryz.prog w = .ok (.int .i64 (dp + 1)) w)
  (HC : Calls Tryz.prog 54 #[.pointer (some ⟨g, 0, none⟩), .int .i64 (dp + 1)] W.drew fun e w' => ∃ v, e = .returned v ∧ (fun u w => ∃ y : Int, u = .int .i64 y ∧ R1 y w) v w')
  (hR1 : ∀ y w, R1 y w → w.cell? ⟨bx, 11, none⟩ = some (.slice A n c) ∧ w.frozen? ⟨bx, 11, none⟩ = false ∧ w.ownsRow base 3 1 (.slice A n c) n xs ∧ base ≤ w.heap.size ∧ bx < w.heap.size)
  (hR3 : ∀ y w, R1 y w → ∀ g9 c9 w', w'.ownsRow base 3 1 (.slice (some ⟨g9, 0, none⟩) (n + 1) c9) (n + 1) (xs ++ [Value.int .i64 y]) → (w.alloc (.cells ([Value.int .i64 y]).toArray 3)).grownBy w' (Value.slice A n c).ownBlock → ((Value.slice A n c).ownBlock = some g9 ∨ g9 = (w.alloc (.cells ([Value.int .i64 y]).toArray 3)).heap.size) → w'.cell? ⟨bx, 11, none⟩ = some (.slice A n c) ∧ w'.frozen? ⟨bx, 11, none⟩ = false ∧ R4 (w'.setCell ⟨bx, 11, none⟩ (.slice (some ⟨g9, 0, none⟩) (n + 1) c9)))
  (hk : ∀ (f : Nat → Value) w', R4 w' → Q .normal ⟨(am9Us f).foldl (fun A p => A.setIfInBounds p.1 p.2) A0.tmps, A0.defers⟩ w') :
  (Code.region id am9Ops true).wp Tryz.prog Q A0 W := by
 refine wp_region_fun (by kernel_rfl) (fun L f w => am9C bx g n c A dp kk W.drew (fun u w => ∃ y : Int, u = .int .i64 y ∧ R1 y w) (fun u w => ∃ y w1, R1 y w1 ∧ u = .slice (some ⟨w1.heap.size, 0, none⟩) 1 1 ∧ w = w1.alloc (.cells ([Value.int .i64 y]).toArray 3)) (fun u w => ∃ g9 c9, u = .slice (some ⟨g9, 0, none⟩) (n + 1) c9 ∧ w.cell? ⟨bx, 11, none⟩ = some (.slice A n c) ∧ w.frozen? ⟨bx, 11, none⟩ = false ∧ R4 (w.setCell ⟨bx, 11, none⟩ (.slice (some ⟨g9, 0, none⟩) (n + 1) c9))) R4 L f w) [30, 31, 32, 33, 34, 35, 36, 37, 38] (wf_ops2 (by kernel_rfl)) (fun i o ho u hu => ?_) ?_ ?_ ?_
 ·have := ops_dst [30, 31, 32, 33, 34, 35, 36, 37, 38] 39 (by kernel_rfl) i o ho u hu
  exact ⟨this.1, Nat.lt_of_lt_of_le this.2 hsz⟩
 ·have hs : am9Ops.size = 10 := rfl
  rw [hs]
  constructor <;> first | exact (fun _ => rfl) | (intro h; simp at h) | (intro h h2; simp at h)
 ·rintro L i o ho hLi haf b w hf hc K hK
  have hdep := ops_deps am9Dep (by kernel_rfl) ho haf
  clear haf
  have hs : am9Ops.size = 10 := rfl
  have hlt : i < 10 := hs ▸ (Array.getElem?_eq_some_iff.1 ho).1
  have hcases : i = 0 ∨ i = 1 ∨ i = 2 ∨ i = 3 ∨ i = 4 ∨ i = 5 ∨ i = 6 ∨ i = 7 ∨ i = 8 ∨ i = 9 := by omega
  rcases hcases with rfl | rfl | rfl | rfl | rfl | rfl | rfl | rfl | rfl | rfl
  ·obtain ⟨h1, h2⟩ := op_at2 ho (show (am9Ops[0]?).map (fun o => (o.dst, o.op)) = some ((some 30), (Op.fieldAddr 54 (Operand.tmp 7) 9)) by kernel_rfl)
   rw [h1] at hK
   refine wp_fieldG _ _ _ h2 _ _ ((hf 7 (by decide)).trans ab) (show (Instr.fieldAt 54 (.pointer (some ⟨bx, 0, none⟩)) 9).run Tryz.prog w = .ok (.pointer (some ⟨bx, 11, none⟩)) w from by kernel_rfl) ?_
   rw [h1]
   exact hK _ _ (am9_0 hc)
  ·obtain ⟨h1, h2⟩ := op_at2 ho (show (am9Ops[1]?).map (fun o => (o.dst, o.op)) = some ((some 31), (Op.load 49 (Operand.tmp 30))) by kernel_rfl)
   rw [h1] at hK
   have l0 : L 0 = true := hdep 0 (by simp [am9Dep])
   have hcell : w.cell? ⟨bx, 11, none⟩ = some (.slice A n c) := by
    cases hq4 : L 5 with
    | false => rw [hc.wz hq4]; exact hB
    | true =>
     cases hq5 : L 6 with
     | false => obtain ⟨y, _, hy⟩ := hc.w5 hq4 hq5; exact (hR1 y w hy).1
     | true =>
      cases hq6 : L 7 with
      | true => exact absurd (hc.d7_1 hq6) (by rw [hLi]; decide)
      | false =>
       obtain ⟨y, w1, hy, _, rfl⟩ := hc.w6 hq5 hq6
       have h1c := (hR1 y w1 hy).1
       have hal : Below w1.heap.size w1 (w1.alloc (.cells ([Value.int .i64 y]).toArray 3)) := al_below _ _
       exact (World.cell?_of_block (w := w1) (a := ⟨bx, 11, none⟩) (hal.block bx (hR1 y w1 hy).2.2.2.2)).trans h1c
   refine wp_loadG _ _ h2 _ _ (hc.v0 l0) (load_slI hcell) ?_
   rw [h1]
   exact hK _ _ (am9_1 hc)
  ·obtain ⟨h1, h2⟩ := op_at2 ho (show (am9Ops[2]?).map (fun o => (o.dst, o.op)) = some ((some 32), (Op.move (Operand.tmp 0))) by kernel_rfl)
   rw [h1] at hK
   refine wp_moveG _ h2 _ ((hf 0 (by decide)).trans a0) ?_
   rw [h1]
   exact hK _ _ (am9_2 hc)
  ·obtain ⟨h1, h2⟩ := op_at2 ho (show (am9Ops[3]?).map (fun o => (o.dst, o.op)) = some ((some 33), (Op.move (Operand.tmp 2))) by kernel_rfl)
   rw [h1] at hK
   refine wp_moveG _ h2 _ ((hf 2 (by decide)).trans a2) ?_
   rw [h1]
   exact hK _ _ (am9_3 hc)
  ·obtain ⟨h1, h2⟩ := op_at2 ho (show (am9Ops[4]?).map (fun o => (o.dst, o.op)) = some ((some 34), (Op.binOp BinOp.add 3 (Operand.tmp 33) (Operand.const (Value.int IntKind.i64 1)) 3)) by kernel_rfl)
   rw [h1] at hK
   have l3 : L 3 = true := hdep 3 (by simp [am9Dep])
   refine wp_binG _ _ _ _ _ h2 _ _ (.int .i64 (dp + 1)) (hc.v3 l3) rfl (by kernel_rfl) (hadd w) ?_
   rw [h1]
   exact hK _ _ (am9_4 hc)
  ·obtain ⟨h1, h2⟩ := op_at2 ho (show (am9Ops[5]?).map (fun o => (o.dst, o.op)) = some ((some 35), (Op.call { callee := Callee.value (Operand.func 54), args := #[Operand.tmp 32, Operand.tmp 34], argTypes := #[99, 3] })) by kernel_rfl)
   rw [h1] at hK
   have l2 : L 2 = true := hdep 2 (by simp [am9Dep])
   have l4 : L 4 = true := hdep 4 (by simp [am9Dep])
   obtain rfl := hc.wz hLi
   refine wp_callG 54 _ _ h2 (enters_of Tryz.func54 (by kernel_rfl) rfl) #[.pointer (some ⟨g, 0, none⟩), .int .i64 (dp + 1)] (by simp [show b.eval (.tmp 32) = _ from hc.v2 l2, show b.eval (.tmp 34) = _ from hc.v4 l4]) _ HC ?_
   intro v w2 hp
   rw [h1]
   exact hK _ _ (am9_5 hc hLi l2 l4 hp)
  ·obtain ⟨h1, h2⟩ := op_at2 ho (show (am9Ops[6]?).map (fun o => (o.dst, o.op)) = some ((some 36), (Op.buildSlice 49 1 #[(0, Operand.tmp 35)])) by kernel_rfl)
   rw [h1] at hK
   have l5 : L 5 = true := hdep 5 (by simp [am9Dep])
   have lq : L 6 = false := hLi
   obtain ⟨y, hy0, hy⟩ := hc.w5 l5 lq
   refine wp_bldI 35 h2 y hy0 ?_
   rw [h1]
   exact hK _ _ (am9_6 hc l5 hLi ⟨y, _, hy, rfl, rfl⟩)
  ·obtain ⟨h1, h2⟩ := op_at2 ho (show (am9Ops[7]?).map (fun o => (o.dst, o.op)) = some ((some 37), (Op.call { callee := Callee.builtin Builtin.append, args := #[Operand.tmp 31, Operand.tmp 36], argTypes := #[49, 49] })) by kernel_rfl)
   rw [h1] at hK
   have l1 : L 1 = true := hdep 1 (by simp [am9Dep])
   have l6 : L 6 = true := hdep 6 (by simp [am9Dep])
   have l5 := hc.d6_5 l6
   obtain ⟨y, w1, hy, hu, rfl⟩ := hc.w6 l6 hLi
   obtain ⟨hq1, hq2, hq3, hq4, _⟩ := hR1 y w1 hy
   have hal : Below w1.heap.size w1 (w1.alloc (.cells ([Value.int .i64 y]).toArray 3)) := al_below _ _
   have h4 : (am9Ops[7]?).map (·.type) = some 49 := by kernel_rfl
   rw [ho] at h4
   replace h4 := Option.some.inj h4
   simp only at h4
   refine wp_appI _ _ h2 h4 base (.slice A n c) n xs (hc.v1 l1) (owns_chg hq3 (Chg.of_below hal (fun _ => False)) (fun _ _ h => h)) w1.heap.size y hu (heap_alloc_new w1 _) hn (Nat.le_trans hq4 hal.size) ?_
   intro g9 c9 w2 hown hgr hat
   rw [h1]
   exact hK _ _ (am9_7 hc l5 l6 hLi l1 (by obtain ⟨e1, e2, e3⟩ := hR3 y w1 hy g9 c9 w2 hown hgr hat; exact ⟨g9, c9, rfl, e1, e2, e3⟩))
  ·obtain ⟨h1, h2⟩ := op_at2 ho (show (am9Ops[8]?).map (fun o => (o.dst, o.op)) = some ((some 38), (Op.fieldAddr 54 (Operand.tmp 7) 9)) by kernel_rfl)
   rw [h1] at hK
   refine wp_fieldG _ _ _ h2 _ _ ((hf 7 (by decide)).trans ab) (show (Instr.fieldAt 54 (.pointer (some ⟨bx, 0, none⟩)) 9).run Tryz.prog w = .ok (.pointer (some ⟨bx, 11, none⟩)) w from by kernel_rfl) ?_
   rw [h1]
   exact hK _ _ (am9_8 hc)
  ·obtain ⟨h1, h2⟩ := op_at2 ho (show (am9Ops[9]?).map (fun o => (o.dst, o.op)) = some (none, (Op.store 49 (Operand.tmp 38) (Operand.tmp 37))) by kernel_rfl)
   rw [h1] at hK
   have l8 : L 8 = true := hdep 8 (by simp [am9Dep])
   have l7 : L 7 = true := hdep 7 (by simp [am9Dep])
   have l6 := hc.d7_6 l7
   have l5 := hc.d6_5 l6
   obtain ⟨g9, c9, hv, hcl, hfz, h13⟩ := hc.w7 l7 hLi
   refine wp_stI _ _ h2 ⟨bx, 11, none⟩ (hc.v8 l8) (some ⟨g9, 0, none⟩) (n + 1) c9 hv (.slice A n c) hcl hfz ?_
   rw [h1]
   exact hK _ _ (am9_9 hc l5 l6 l7 hLi l8 h13)
 ·rintro L b w hL hd hs hf hc
  have hsz2 : am9Ops.size = 10 := rfl
  rw [hsz2] at hL
  have e := act_eq (a := A0) (b := b) (am9Us (Act.at b)) hd hs hf (by
   intro p hp
   simp only [am9Us, List.mem_cons, List.not_mem_nil, or_false] at hp
   rcases hp with rfl | rfl | rfl | rfl | rfl | rfl | rfl | rfl | rfl <;> rfl) (by rw [show (am9Us (Act.at b)).map (·.1) = [30, 31, 32, 33, 34, 35, 36, 37, 38] from rfl]; decide)
  rw [e]
  exact hk (Act.at b) w (hc.w9 (hL 9 (by omega)))
end Go.Proofs.YtfcccfplmdjndaaGreat
