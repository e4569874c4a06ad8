/- What came in: types and specifications. -/
import Derived.Test.YthjfhenldkihkaaRowSp
import Derived.Test.YthjfhenldkihkaaSpI
import Derived.ChangeArms
import Derived.DataReads
namespace Go.Proofs.Ythjfhenldkihkaa
set_option linter.unusedSimpArgs false
set_option linter.unusedVariables false
open Go.ChangeShapes Go.WideShapes Go.ChangeAt Go.RowKit

theorem part_at {cs vs : List Value} {o m : Nat} (h : (cs.drop o).take m = vs) {i : Nat} (hi : i < m) : cs[o + i]? = vs[i]? := by
  rw [← h, List.getElem?_take_of_lt hi, List.getElem?_drop]
/-- An int's range. -/
def I64 (a : Int) : Prop := -9223372036854775808 ≤ a ∧ a ≤ 9223372036854775807
section
variable {H : Type} {enc : TypeId × Value → H} {W : World}
theorem open_list {α : Type} [Inhabited α] (f : α → List Value) (m : Nat) (hm0 : 0 < m) (hfl : ∀ x, (f x).length = m) (Q : α → Prop) {T S : TypeId} (hu : Try.prog.underlying S = some (.slice T)) (hc : Try.prog.cellsOf T = m)
    (hopen : ∀ fuel cs x, DataW.trod enc Try.prog W 0 (fun _ => true) true fuel T cs = some x → ∃ y, cs = f y ∧ Q y) {fuel : Nat} {cs : List Value} {x : DataW H × List MemPlace}
    (h : DataW.trod enc Try.prog W 0 (fun _ => true) true fuel S cs = some x) : ∃ (s : SV) (l : List α), cs = [.slice s.A s.n s.c] ∧ s.n = l.length ∧ Rw W (· < W.heap.size) s (l.flatMap f) ∧ (∀ y ∈ l, Q y) ∧ s.n ≤ maxLen := by
  rcases DataW.trod_slice hu h with ⟨e5, _⟩ | ⟨a, len, cap, elems, rest, n, _, e5, _, _, hl, hcm, hel, hall, _⟩
  · exact ⟨SV.nil, [], e5, rfl, Rw.nil _ _ _, (fun y hy => by simp at hy), Nat.zero_le _⟩
  · have hx2 : ∀ i, ∃ y : α, i < len → Q y ∧ ∀ j, j < m → W.cell? (a.add (i * m + j)) = (f y)[j]? := by
      intro i
      by_cases hi : i < len
      · have h1 := hall i hi
        rw [List.getElem?_eq_getElem (by omega), hc] at h1
        obtain ⟨cs', h2, h3⟩ := Option.bind_eq_some_iff.1 h1
        obtain ⟨y, rfl, hq⟩ := hopen _ _ _ h3
        refine ⟨y, fun _ => ⟨hq, fun j hj => ?_⟩⟩
        have h4 := (World.cells?_some h2).2.2 j hj
        have ha : (a.add (i * m)).add j = a.add (i * m + j) := Addr.add_add _ _ _
        rw [← ha, h4]
      · exact ⟨default, fun h => absurd h hi⟩
    have hx3 : ∃ g : Nat → α, ∀ i, i < len → Q (g i) ∧ ∀ j, j < m → W.cell? (a.add (i * m + j)) = (f (g i))[j]? := ⟨fun i => (hx2 i).choose, fun i => (hx2 i).choose_spec⟩
    obtain ⟨g, hg⟩ := hx3
    refine ⟨⟨some a, len, cap⟩, (List.range len).map g, e5, by simp, ⟨(fun e => by cases e), fun h0 => ?_⟩, (fun y hy => ?_), Nat.le_trans hl hcm⟩
    · rw [flat_len hfl, List.length_map, List.length_range] at h0
      have hl0 : 0 < len := Nat.pos_of_mul_pos_right h0
      obtain ⟨b, o, spot⟩ := a
      have h1 := (hg 0 hl0).2 0 hm0
      rw [List.getElem?_eq_getElem (by rw [hfl]; exact hm0)] at h1
      have hs : spot = none := by simpa [Addr.add] using World.cell?_spot h1
      subst hs
      have hbl : b < W.heap.size := by simpa [Addr.add] using World.block_lt_of_cell? _ _ h1
      refine ⟨b, o, rfl, hbl, hbl, fun j hj => ?_⟩
      have hj2 := hj
      rw [flat_len hfl, List.length_map, List.length_range] at hj2
      have hq : j / m < len := Nat.div_lt_of_lt_mul (by rw [Nat.mul_comm]; exact hj2)
      have hr : j % m < m := Nat.mod_lt _ hm0
      have e : j / m * m + j % m = j := Nat.div_add_mod' j m
      have h2 := (hg _ hq).2 _ hr
      rw [addr_add, e] at h2
      rw [h2, ← List.getElem?_eq_getElem hj]
      have h3 := flat_get hfl ((List.range len).map g) (j / m) (j % m) (by simpa using hq) hr
      rw [e] at h3
      rw [h3]
      simp
    · obtain ⟨i, hi, rfl⟩ := List.mem_map.1 hy
      exact (hg i (List.mem_range.1 hi)).1
theorem open_field {fuel : Nat} {cs : List Value} {x : DataW H × List MemPlace} (h : DataW.trod enc Try.prog W 0 (fun _ => true) true fuel 51 cs = some x) : ∃ y : FT, cs = y.cells ∧ I64 y.ty := by
  obtain ⟨xs, n, rfl, hx, hlen, hxl, hf⟩ := DataW.trod_struct Try.underlying51 h
  have c5 : Try.prog.cellsOf 51 = 5 := by kernel_rfl
  have ci : Try.prog.cellsOf 3 = 1 := by kernel_rfl
  have cs1 : Try.prog.cellsOf 9 = 1 := by kernel_rfl
  rw [c5] at hlen
  have hxl5 : xs.length = 5 := hxl
  have f0 : DataW.trod enc Try.prog W 0 (fun _ => true) true n 9 ((cs.drop 0).take (Try.prog.cellsOf 9)) = xs[0]? := hf 0 _ rfl
  have f1 : DataW.trod enc Try.prog W 0 (fun _ => true) true n 3 ((cs.drop 1).take (Try.prog.cellsOf 3)) = xs[1]? := hf 1 _ rfl
  have f2 : DataW.trod enc Try.prog W 0 (fun _ => true) true n 3 ((cs.drop 2).take (Try.prog.cellsOf 3)) = xs[2]? := hf 2 _ rfl
  have f3 : DataW.trod enc Try.prog W 0 (fun _ => true) true n 9 ((cs.drop 3).take (Try.prog.cellsOf 9)) = xs[3]? := hf 3 _ rfl
  have f4 : DataW.trod enc Try.prog W 0 (fun _ => true) true n 9 ((cs.drop 4).take (Try.prog.cellsOf 9)) = xs[4]? := hf 4 _ rfl
  rw [ci] at f1 f2
  rw [cs1] at f0 f3 f4
  rw [List.getElem?_eq_getElem (by omega)] at f0 f1 f2 f3 f4
  obtain ⟨v0, e0, _⟩ := DataW.trod_string Try.underlying9 f0
  obtain ⟨v1, e1, _, w1⟩ := DataW.trod_int Try.underlying3 f1
  obtain ⟨v2, e2, _, _⟩ := DataW.trod_int Try.underlying3 f2
  obtain ⟨v3, e3, _⟩ := DataW.trod_string Try.underlying9 f3
  obtain ⟨v4, e4, _⟩ := DataW.trod_string Try.underlying9 f4
  refine ⟨⟨v0, v1, v2, v3, v4⟩, ?_, bounds_i64 w1⟩
  apply List.ext_getElem?
  intro i
  by_cases hi : i < 5
  · obtain rfl | rfl | rfl | rfl | rfl : i = 0 ∨ i = 1 ∨ i = 2 ∨ i = 3 ∨ i = 4 := by omega
    · exact part_at e0 (i := 0) (by decide)
    · exact part_at e1 (i := 0) (by decide)
    · exact part_at e2 (i := 0) (by decide)
    · exact part_at e3 (i := 0) (by decide)
    · exact part_at e4 (i := 0) (by decide)
  · rw [List.getElem?_eq_none (by omega), List.getElem?_eq_none (by show 5 ≤ i; omega)]
theorem open_case {fuel : Nat} {cs : List Value} {x : DataW H × List MemPlace} (h : DataW.trod enc Try.prog W 0 (fun _ => true) true fuel 81 cs = some x) : ∃ y : CT, cs = y.cells ∧ I64 y.ty := by
  obtain ⟨xs, n, rfl, hx, hlen, hxl, hf⟩ := DataW.trod_struct Try.underlying81 h
  have c2 : Try.prog.cellsOf 81 = 2 := by kernel_rfl
  have ci : Try.prog.cellsOf 3 = 1 := by kernel_rfl
  have cu : Try.prog.cellsOf 42 = 1 := by kernel_rfl
  rw [c2] at hlen
  have hxl2 : xs.length = 2 := hxl
  have f0 : DataW.trod enc Try.prog W 0 (fun _ => true) true n 42 ((cs.drop 0).take (Try.prog.cellsOf 42)) = xs[0]? := hf 0 _ rfl
  have f1 : DataW.trod enc Try.prog W 0 (fun _ => true) true n 3 ((cs.drop 1).take (Try.prog.cellsOf 3)) = xs[1]? := hf 1 _ rfl
  rw [ci] at f1
  rw [cu] at f0
  rw [List.getElem?_eq_getElem (by omega)] at f0 f1
  obtain ⟨v0, e0, _, w0⟩ := DataW.trod_int Try.underlying42 f0
  obtain ⟨v1, e1, _, w1⟩ := DataW.trod_int Try.underlying3 f1
  have hb := bounds_u64 w0
  refine ⟨⟨v0.toNat, v1⟩, ?_, bounds_i64 w1⟩
  rw [show v0 = ((v0.toNat : Nat) : Int) by omega] at e0
  apply List.ext_getElem?
  intro i
  by_cases hi : i < 2
  · obtain rfl | rfl : i = 0 ∨ i = 1 := by omega
    · exact part_at e0 (i := 0) (by decide)
    · exact part_at e1 (i := 0) (by decide)
  · rw [List.getElem?_eq_none (by omega), List.getElem?_eq_none (by show 2 ≤ i; omega)]
theorem open_def {fuel : Nat} {cs : List Value} {x : DataW H × List MemPlace} (h : DataW.trod enc Try.prog W 0 (fun _ => true) true fuel 32 cs = some x) : ∃ y : DT, cs = y.cells ∧ I64 y.ty := by
  obtain ⟨xs, n, rfl, hx, hlen, hxl, hf⟩ := DataW.trod_struct Try.underlying32 h
  have c2 : Try.prog.cellsOf 32 = 2 := by kernel_rfl
  have ci : Try.prog.cellsOf 3 = 1 := by kernel_rfl
  have cu : Try.prog.cellsOf 9 = 1 := by kernel_rfl
  rw [c2] at hlen
  have hxl2 : xs.length = 2 := hxl
  have f0 : DataW.trod enc Try.prog W 0 (fun _ => true) true n 9 ((cs.drop 0).take (Try.prog.cellsOf 9)) = xs[0]? := hf 0 _ rfl
  have f1 : DataW.trod enc Try.prog W 0 (fun _ => true) true n 3 ((cs.drop 1).take (Try.prog.cellsOf 3)) = xs[1]? := hf 1 _ rfl
  rw [ci] at f1
  rw [cu] at f0
  rw [List.getElem?_eq_getElem (by omega)] at f0 f1
  obtain ⟨v0, e0, _⟩ := DataW.trod_string Try.underlying9 f0
  obtain ⟨v1, e1, _, w1⟩ := DataW.trod_int Try.underlying3 f1
  refine ⟨⟨v0, v1⟩, ?_, bounds_i64 w1⟩
  apply List.ext_getElem?
  intro i
  by_cases hi : i < 2
  · obtain rfl | rfl : i = 0 ∨ i = 1 := by omega
    · exact part_at e0 (i := 0) (by decide)
    · exact part_at e1 (i := 0) (by decide)
  · rw [List.getElem?_eq_none (by omega), List.getElem?_eq_none (by show 2 ≤ i; omega)]
instance : Inhabited FT := ⟨⟨⟨#[]⟩, 0, 0, ⟨#[]⟩, ⟨#[]⟩⟩⟩
instance : Inhabited CT := ⟨⟨0, 0⟩⟩
instance : Inhabited DT := ⟨⟨⟨#[]⟩, 0⟩⟩
theorem flat_one {α : Type} (g : α → Value) (l : List α) : l.flatMap (fun x => [g x]) = l.map g := by
  induction l with
  | nil => rfl
  | cons x l ih => rw [List.flatMap_cons, ih]; rfl
set_option maxRecDepth 10000 in
theorem open_expr {fuel : Nat} {cs : List Value} {x : DataW H × List MemPlace} (h : DataW.trod enc Try.prog W 0 (fun _ => true) true fuel 44 cs = some x) : ∃ (r : ByteArray) (m a : Nat), cs = [.string r, .int .u64 (m : Int), .int .u64 (a : Int)] := by
  obtain ⟨xs, n, rfl, hx, hlen, hxl, hf⟩ := DataW.trod_struct Try.underlying44 h
  have c3 : Try.prog.cellsOf 44 = 3 := by kernel_rfl
  have cs1 : Try.prog.cellsOf 9 = 1 := by kernel_rfl
  have cu : Try.prog.cellsOf 42 = 1 := by kernel_rfl
  rw [c3] at hlen
  have hxl3 : xs.length = 3 := hxl
  have f0 : DataW.trod enc Try.prog W 0 (fun _ => true) true n 9 ((cs.drop 0).take (Try.prog.cellsOf 9)) = xs[0]? := hf 0 _ rfl
  have f1 : DataW.trod enc Try.prog W 0 (fun _ => true) true n 42 ((cs.drop 1).take (Try.prog.cellsOf 42)) = xs[1]? := hf 1 _ rfl
  have f2 : DataW.trod enc Try.prog W 0 (fun _ => true) true n 42 ((cs.drop 2).take (Try.prog.cellsOf 42)) = xs[2]? := hf 2 _ rfl
  rw [cu] at f1 f2
  rw [cs1] at f0
  rw [List.getElem?_eq_getElem (by omega)] at f0 f1 f2
  obtain ⟨v0, e0, _⟩ := DataW.trod_string Try.underlying9 f0
  obtain ⟨v1, e1, _, w1⟩ := DataW.trod_int Try.underlying42 f1
  obtain ⟨v2, e2, _, w2⟩ := DataW.trod_int Try.underlying42 f2
  have hb1 := bounds_u64 w1
  have hb2 := bounds_u64 w2
  rw [show v1 = ((v1.toNat : Nat) : Int) by omega] at e1
  rw [show v2 = ((v2.toNat : Nat) : Int) by omega] at e2
  refine ⟨v0, v1.toNat, v2.toNat, ?_⟩
  apply List.ext_getElem?
  intro i
  by_cases hi : i < 3
  · obtain rfl | rfl | rfl : i = 0 ∨ i = 1 ∨ i = 2 := by omega
    · exact part_at e0 (i := 0) (by decide)
    · exact part_at e1 (i := 0) (by decide)
    · exact part_at e2 (i := 0) (by decide)
  · rw [List.getElem?_eq_none (by omega), List.getElem?_eq_none (by show 3 ≤ i; omega)]
/-- A type's numbers are of their kinds. -/
structure Wfn (t : NT) : Prop where
  k : -9223372036854775808 ≤ t.k ∧ t.k ≤ 9223372036854775807
  wd : -9223372036854775808 ≤ t.wd ∧ t.wd ≤ 9223372036854775807
  mn : t.mn < 18446744073709551616
  mx : t.mx < 18446744073709551616
  md : t.md < 18446744073709551616
  el : -9223372036854775808 ≤ t.el ∧ t.el ≤ 9223372036854775807
  ks : ∀ y ∈ t.ks, I64 y
  fs : ∀ y ∈ t.fs, I64 y.ty
  cs : ∀ y ∈ t.cs, I64 y.ty
set_option maxRecDepth 10000 in
set_option maxHeartbeats 1000000 in
theorem open_node_cells {fuel : Nat} {cs : List Value} {x : DataW H × List MemPlace} (h : DataW.trod enc Try.prog W 0 (fun _ => true) true fuel 49 cs = some x) : ∃ y : NV, cs = y.cells ∧ (NodeOk W (· < W.heap.size) y ∧ Wfn y.t) := by
  obtain ⟨xs, n, rfl, hx, hlen, hxl, hf⟩ := DataW.trod_struct Try.underlying49 h
  have c18 : Try.prog.cellsOf 49 = 18 := by kernel_rfl
  have c5 : Try.prog.cellsOf 51 = 5 := by kernel_rfl
  have c2 : Try.prog.cellsOf 81 = 2 := by kernel_rfl
  rw [c18] at hlen
  have hxl16 : xs.length = 16 := hxl
  have c_0 : Try.prog.cellsOf 3 = 1 := by kernel_rfl
  have c_1 : Try.prog.cellsOf 4 = 1 := by kernel_rfl
  have c_2 : Try.prog.cellsOf 42 = 1 := by kernel_rfl
  have c_3 : Try.prog.cellsOf 9 = 1 := by kernel_rfl
  have c_4 : Try.prog.cellsOf 44 = 3 := by kernel_rfl
  have c_5 : Try.prog.cellsOf 30 = 1 := by kernel_rfl
  have c_6 : Try.prog.cellsOf 45 = 1 := by kernel_rfl
  have c_7 : Try.prog.cellsOf 46 = 1 := by kernel_rfl
  have c_8 : Try.prog.cellsOf 47 = 1 := by kernel_rfl
  have f0 : DataW.trod enc Try.prog W 0 (fun _ => true) true n 3 ((cs.drop 0).take (Try.prog.cellsOf 3)) = xs[0]? := hf 0 _ rfl
  rw [c_0, List.getElem?_eq_getElem (by omega)] at f0
  have f1 : DataW.trod enc Try.prog W 0 (fun _ => true) true n 3 ((cs.drop 1).take (Try.prog.cellsOf 3)) = xs[1]? := hf 1 _ rfl
  rw [c_0, List.getElem?_eq_getElem (by omega)] at f1
  have f2 : DataW.trod enc Try.prog W 0 (fun _ => true) true n 4 ((cs.drop 2).take (Try.prog.cellsOf 4)) = xs[2]? := hf 2 _ rfl
  rw [c_1, List.getElem?_eq_getElem (by omega)] at f2
  have f3 : DataW.trod enc Try.prog W 0 (fun _ => true) true n 4 ((cs.drop 3).take (Try.prog.cellsOf 4)) = xs[3]? := hf 3 _ rfl
  rw [c_1, List.getElem?_eq_getElem (by omega)] at f3
  have f4 : DataW.trod enc Try.prog W 0 (fun _ => true) true n 4 ((cs.drop 4).take (Try.prog.cellsOf 4)) = xs[4]? := hf 4 _ rfl
  rw [c_1, List.getElem?_eq_getElem (by omega)] at f4
  have f5 : DataW.trod enc Try.prog W 0 (fun _ => true) true n 42 ((cs.drop 5).take (Try.prog.cellsOf 42)) = xs[5]? := hf 5 _ rfl
  rw [c_2, List.getElem?_eq_getElem (by omega)] at f5
  have f6 : DataW.trod enc Try.prog W 0 (fun _ => true) true n 42 ((cs.drop 6).take (Try.prog.cellsOf 42)) = xs[6]? := hf 6 _ rfl
  rw [c_2, List.getElem?_eq_getElem (by omega)] at f6
  have f7 : DataW.trod enc Try.prog W 0 (fun _ => true) true n 9 ((cs.drop 7).take (Try.prog.cellsOf 9)) = xs[7]? := hf 7 _ rfl
  rw [c_3, List.getElem?_eq_getElem (by omega)] at f7
  have f8 : DataW.trod enc Try.prog W 0 (fun _ => true) true n 44 ((cs.drop 8).take (Try.prog.cellsOf 44)) = xs[8]? := hf 8 _ rfl
  rw [c_4, List.getElem?_eq_getElem (by omega)] at f8
  have f9 : DataW.trod enc Try.prog W 0 (fun _ => true) true n 30 ((cs.drop 11).take (Try.prog.cellsOf 30)) = xs[9]? := hf 9 _ rfl
  rw [c_5, List.getElem?_eq_getElem (by omega)] at f9
  have f10 : DataW.trod enc Try.prog W 0 (fun _ => true) true n 45 ((cs.drop 12).take (Try.prog.cellsOf 45)) = xs[10]? := hf 10 _ rfl
  rw [c_6, List.getElem?_eq_getElem (by omega)] at f10
  have f11 : DataW.trod enc Try.prog W 0 (fun _ => true) true n 46 ((cs.drop 13).take (Try.prog.cellsOf 46)) = xs[11]? := hf 11 _ rfl
  rw [c_7, List.getElem?_eq_getElem (by omega)] at f11
  have f12 : DataW.trod enc Try.prog W 0 (fun _ => true) true n 9 ((cs.drop 14).take (Try.prog.cellsOf 9)) = xs[12]? := hf 12 _ rfl
  rw [c_3, List.getElem?_eq_getElem (by omega)] at f12
  have f13 : DataW.trod enc Try.prog W 0 (fun _ => true) true n 42 ((cs.drop 15).take (Try.prog.cellsOf 42)) = xs[13]? := hf 13 _ rfl
  rw [c_2, List.getElem?_eq_getElem (by omega)] at f13
  have f14 : DataW.trod enc Try.prog W 0 (fun _ => true) true n 47 ((cs.drop 16).take (Try.prog.cellsOf 47)) = xs[14]? := hf 14 _ rfl
  rw [c_8, List.getElem?_eq_getElem (by omega)] at f14
  have f15 : DataW.trod enc Try.prog W 0 (fun _ => true) true n 3 ((cs.drop 17).take (Try.prog.cellsOf 3)) = xs[15]? := hf 15 _ rfl
  rw [c_0, List.getElem?_eq_getElem (by omega)] at f15
  obtain ⟨k, e0, _, w0⟩ := DataW.trod_int Try.underlying3 f0
  obtain ⟨wd, e1, _, w1⟩ := DataW.trod_int Try.underlying3 f1
  obtain ⟨li, e2, _⟩ := DataW.trod_bool Try.underlying4 f2
  obtain ⟨zg, e3, _⟩ := DataW.trod_bool Try.underlying4 f3
  obtain ⟨le, e4, _⟩ := DataW.trod_bool Try.underlying4 f4
  obtain ⟨mn, e5, _, w5⟩ := DataW.trod_int Try.underlying42 f5
  have b5 := bounds_u64 w5
  rw [show mn = ((mn.toNat : Nat) : Int) by omega] at e5
  obtain ⟨mx, e6, _, w6⟩ := DataW.trod_int Try.underlying42 f6
  have b6 := bounds_u64 w6
  rw [show mx = ((mx.toNat : Nat) : Int) by omega] at e6
  obtain ⟨tx, e7, _⟩ := DataW.trod_string Try.underlying9 f7
  obtain ⟨er, mu, ad, e8⟩ := open_expr f8
  obtain ⟨K, ks, e9, kn, kr, kq, kx⟩ := open_list (fun y : Int => [Value.int .i64 y]) 1 (by decide) (fun _ => rfl) I64 Try.underlying30 (by kernel_rfl) (fun fuel cs x h => by obtain ⟨y, e, _, wy⟩ := DataW.trod_int Try.underlying3 h; exact ⟨y, e, bounds_i64 wy⟩) f9
  obtain ⟨L, ls, e10, ln, lr, _, lx⟩ := open_list (fun y : Bool => [Value.bool y]) 1 (by decide) (fun _ => rfl) (fun _ => True) Try.underlying45 (by kernel_rfl) (fun fuel cs x h => by obtain ⟨y, e, _⟩ := DataW.trod_bool Try.underlying4 h; exact ⟨y, e, trivial⟩) f10
  obtain ⟨F, fs, e11, fn, fr, fq, fx⟩ := open_list FT.cells 5 (by decide) (fun _ => rfl) (fun y => I64 y.ty) Try.underlying46 (by kernel_rfl) (fun fuel cs x h => open_field h) f11
  obtain ⟨rg, e12, _⟩ := DataW.trod_string Try.underlying9 f12
  obtain ⟨md, e13, _, w13⟩ := DataW.trod_int Try.underlying42 f13
  have b13 := bounds_u64 w13
  rw [show md = ((md.toNat : Nat) : Int) by omega] at e13
  obtain ⟨C, ccs, e14, cn, cr, cq, cx⟩ := open_list CT.cells 2 (by decide) (fun _ => rfl) (fun y => I64 y.ty) Try.underlying47 (by kernel_rfl) (fun fuel cs x h => open_case h) f14
  obtain ⟨el, e15, _, w15⟩ := DataW.trod_int Try.underlying3 f15
  rw [flat_one] at kr lr
  refine ⟨⟨⟨k, wd, li, zg, le, mn.toNat, mx.toNat, tx, er, mu, ad, ks, ls, fs, rg, md.toNat, ccs, el⟩, K, L, F, C⟩, ?_, ⟨kn, ln, fn, cn, kr, lr, fr, cr⟩, ⟨bounds_i64 w0, bounds_i64 w1, by show mn.toNat < _; omega, by show mx.toNat < _; omega, by show md.toNat < _; omega, bounds_i64 w15, kq, fq, cq⟩⟩
  apply List.ext_getElem?
  intro i
  by_cases hi : i < 18
  · obtain rfl | rfl | rfl | rfl | rfl | rfl | rfl | rfl | rfl | rfl | rfl | rfl | rfl | rfl | rfl | rfl | rfl | rfl : i = 0 ∨ i = 1 ∨ i = 2 ∨ i = 3 ∨ i = 4 ∨ i = 5 ∨ i = 6 ∨ i = 7 ∨ i = 8 ∨ i = 9 ∨ i = 10 ∨ i = 11 ∨ i = 12 ∨ i = 13 ∨ i = 14 ∨ i = 15 ∨ i = 16 ∨ i = 17 := by omega
    · exact part_at e0 (i := 0) (by decide)
    · exact part_at e1 (i := 0) (by decide)
    · exact part_at e2 (i := 0) (by decide)
    · exact part_at e3 (i := 0) (by decide)
    · exact part_at e4 (i := 0) (by decide)
    · exact part_at e5 (i := 0) (by decide)
    · exact part_at e6 (i := 0) (by decide)
    · exact part_at e7 (i := 0) (by decide)
    · exact part_at e8 (i := 0) (by decide)
    · exact part_at e8 (i := 1) (by decide)
    · exact part_at e8 (i := 2) (by decide)
    · exact part_at e9 (i := 0) (by decide)
    · exact part_at e10 (i := 0) (by decide)
    · exact part_at e11 (i := 0) (by decide)
    · exact part_at e12 (i := 0) (by decide)
    · exact part_at e13 (i := 0) (by decide)
    · exact part_at e14 (i := 0) (by decide)
    · exact part_at e15 (i := 0) (by decide)
  · rw [List.getElem?_eq_none (by omega), List.getElem?_eq_none (by show 18 ≤ i; omega)]
instance : Inhabited NV := ⟨⟨⟨0, 0, false, false, false, 0, 0, ⟨#[]⟩, ⟨#[]⟩, 0, 0, [], [], [], ⟨#[]⟩, 0, [], 0⟩, SV.nil, SV.nil, SV.nil, SV.nil⟩⟩
set_option maxRecDepth 10000 in
/-- A type that came in. -/
theorem open_node {v : Value} {d : DataW H} {p : List MemPlace} (h : DataW.Trod enc Try.prog W 0 (fun _ => true) true 49 v d p) : ∃ x : NV, v = x.val ∧ NodeOk W (· < W.heap.size) x ∧ Wfn x.t := by
  obtain ⟨fuel, h⟩ := h
  obtain ⟨x, e, hr, hw⟩ := open_node_cells h
  refine ⟨x, ?_, hr, hw⟩
  have hl := congrArg List.length e
  rw [NV.len] at hl
  clear h
  cases v with
  | agg cs =>
    obtain ⟨l⟩ := cs
    have e : l = x.cells := e
    rw [e]
    rfl
  | _ => simp [Value.cells] at hl
set_option maxRecDepth 10000 in
/-- A specification that came in. -/
theorem open_spec {v : Value} {d : DataW H} {p : List MemPlace} (h : DataW.Trod enc Try.prog W 0 (fun _ => true) true 25 v d p) : ∃ x : SpV, v = x.val ∧ SpecOk W (· < W.heap.size) x ∧ (∀ y ∈ x.vs, Wfn y.t) ∧ (∀ y ∈ x.ds, I64 y.ty) ∧ x.N.n ≤ maxLen ∧ x.D.n ≤ maxLen := by
  obtain ⟨fuel, h⟩ := h
  obtain ⟨xs, n, rfl, hx, hlen, hxl, hf⟩ := DataW.trod_struct Try.underlying25 h
  have c2 : Try.prog.cellsOf 25 = 2 := by kernel_rfl
  have ca : Try.prog.cellsOf 22 = 1 := by kernel_rfl
  have cb : Try.prog.cellsOf 23 = 1 := by kernel_rfl
  rw [c2] at hlen
  have hxl2 : xs.length = 2 := hxl
  have f0 : DataW.trod enc Try.prog W 0 (fun _ => true) true n 22 ((v.cells.toList.drop 0).take (Try.prog.cellsOf 22)) = xs[0]? := hf 0 _ rfl
  have f1 : DataW.trod enc Try.prog W 0 (fun _ => true) true n 23 ((v.cells.toList.drop 1).take (Try.prog.cellsOf 23)) = xs[1]? := hf 1 _ rfl
  rw [ca, List.getElem?_eq_getElem (by omega)] at f0
  rw [cb, List.getElem?_eq_getElem (by omega)] at f1
  obtain ⟨N, vs, e0, nn, nr, nq, nx⟩ := open_list NV.cells 18 (by decide) (fun _ => rfl) (fun y => NodeOk W (· < W.heap.size) y ∧ Wfn y.t) Try.underlying22 (by kernel_rfl) (fun fuel cs x h => open_node_cells h) f0
  obtain ⟨D, ds, e1, dn, dr, dq, dx⟩ := open_list DT.cells 2 (by decide) (fun _ => rfl) (fun y => I64 y.ty) Try.underlying23 (by kernel_rfl) (fun fuel cs x h => open_def h) f1
  refine ⟨⟨vs, ds, N, D⟩, ?_, ⟨nn, dn, nr, dr, fun y hy => (nq y hy).1⟩, (fun y hy => (nq y hy).2), dq, nx, dx⟩
  have hc : v.cells.toList = (SpV.mk vs ds N D).cells := by
    apply List.ext_getElem?
    intro i
    by_cases hi : i < 2
    · obtain rfl | rfl : i = 0 ∨ i = 1 := by omega
      · exact part_at e0 (i := 0) (by decide)
      · exact part_at e1 (i := 0) (by decide)
    · rw [List.getElem?_eq_none (by omega), List.getElem?_eq_none (by show 2 ≤ i; omega)]
  cases v with
  | agg cs =>
    obtain ⟨l⟩ := cs
    have hc : l = _ := hc
    rw [hc]
    rfl
  | _ => simp [Value.cells] at hlen
theorem Wfn.parts {t : NT} (h : Wfn t) : ∀ p ∈ t.parts, I64 p := by
  intro p hp
  unfold NT.parts at hp
  simp only [List.mem_append, List.mem_map] at hp
  rcases hp with ((hp | ⟨y, hy, rfl⟩) | ⟨y, hy, rfl⟩) | hp
  · exact h.ks p hp
  · exact h.fs y hy
  · exact h.cs y hy
  · split at hp
    · rw [List.mem_singleton] at hp
      rw [hp]
      exact h.el
    · cases hp
end
end Go.Proofs.Ythjfhenldkihkaa
