/- class: a set's value; four words in a block. -/
import Derived.Test.YtoiegkejkahfgaaDoorPop
import Derived.Test.YtoiegkejkahfgaaDoorMem
import Derived.Test.YtoiegkejkahfgaaDoorSmall
import Derived.Laws.Bits64b
import Derived.Laws.Rows
import Derived.Laws.Unary
import Derived.Laws.StructEq
import Derived.Laws.Shifts
namespace Go.Proofs.YtoiegkejkahfgaaDoor
set_option linter.unusedVariables false
set_option linter.unusedSimpArgs false
open Go.RowKit

def u64V (n : Nat) : Value := .int .u64 (n : Int)
/-- Four words. -/
def four (f : Nat → Nat) : List Value := [u64V (f 0), u64V (f 1), u64V (f 2), u64V (f 3)]
def setL (a : BS) : List Value := four (wd a)
/-- A set's value. -/
def setV (a : BS) : Value := .agg #[.int .u64 ((wd a 0 : Nat) : Int), .int .u64 ((wd a 1 : Nat) : Int), .int .u64 ((wd a 2 : Nat) : Int), .int .u64 ((wd a 3 : Nat) : Int)]
theorem setV_eq (a : BS) : setV a = .agg (setL a).toArray := rfl
/-- The first k of them as f has them, the others as g. -/
def mix (f g : Nat → Nat) (k : Nat) : List Value := four (fun i => if i < k then f i else g i)
theorem mix_zero (f g : Nat → Nat) : mix f g 0 = four g := by simp [mix]
theorem mix_all (f g : Nat → Nat) : mix f g 4 = four f := by simp [mix, four]
theorem four_get (f : Nat → Nat) (k : Nat) (hk : k < 4) : (four f)[k]? = some (u64V (f k)) := by
  have : k = 0 ∨ k = 1 ∨ k = 2 ∨ k = 3 := by omega
  rcases this with rfl | rfl | rfl | rfl <;> rfl
theorem four_set (f : Nat → Nat) (k x : Nat) (hk : k < 4) : (four f).set k (u64V x) = four (fun i => if i = k then x else f i) := by
  have : k = 0 ∨ k = 1 ∨ k = 2 ∨ k = 3 := by omega
  rcases this with rfl | rfl | rfl | rfl <;> simp [four]
theorem Blk.cells4 {w : World} {g : Nat} {t : TypeId} {a : BS} (h : Blk w g t (setL a)) : w.cell? ⟨g, 0, none⟩ = some (.int .u64 ((wd a 0 : Nat) : Int)) ∧ w.cell? ⟨g, 1, none⟩ = some (.int .u64 ((wd a 1 : Nat) : Int)) ∧
    w.cell? ⟨g, 2, none⟩ = some (.int .u64 ((wd a 2 : Nat) : Int)) ∧ w.cell? ⟨g, 3, none⟩ = some (.int .u64 ((wd a 3 : Nat) : Int)) := ⟨h.at 0, h.at 1, h.at 2, h.at 3⟩
theorem mix_get (f g : Nat → Nat) (k : Nat) (hk : k < 4) : (mix f g k)[k]? = some (u64V (g k)) := by
  unfold mix
  rw [four_get _ _ hk, if_neg (Nat.lt_irrefl _)]
theorem mix_set (f g : Nat → Nat) (k : Nat) (hk : k < 4) : (mix f g k).set k (u64V (f k)) = mix f g (k + 1) := by
  unfold mix
  rw [four_set _ _ _ hk]
  congr 1
  funext i
  by_cases h : i = k
  · subst h; simp
  · by_cases h2 : i < k
    · simp [h, h2, show i < k + 1 by omega]
    · simp [h, h2, show ¬ i < k + 1 by omega]
theorem four_size (f : Nat → Nat) : (four f).toArray.size = 4 := rfl
theorem four_one (f : Nat → Nat) : (four f).toArray.all (·.oneCell') = true := by simp [four, u64V, Value.oneCell']
theorem set_info (f : Nat → Nat) : (Tryd.prog.info? 43).map (·.size) = some (four f).toArray.size := by
  rw [four_size]; kernel_rfl
theorem blk_row {w : World} {g : Nat} {t : TypeId} {cs : List Value} (h : Blk w g t cs) (cs' : List Value) : Blk (w.setRow g cs'.toArray) g t cs' := setRow_heap w g _ _ t (0, 0) h
theorem below_row {B g : Nat} {a w : World} (h : Below B a w) (hg : B ≤ g) (cs : Array Value) : Below B a (w.setRow g cs) :=
  ⟨h.os, h.tape, h.output, by have := h.size; simpa [World.setRow] using this, fun k hk => (setRow_other w g k cs (by omega)).trans (h.block k hk)⟩
theorem and64 (x y : Nat) (hx : x < 18446744073709551616) (hy : y < 18446744073709551616) : bits .and .u64 (x : Int) (y : Int) = ((x &&& y : Nat) : Int) := bits_and_u64_nat x y hx hy
theorem or64 (x y : Nat) (hx : x < 18446744073709551616) (hy : y < 18446744073709551616) : bits .or .u64 (x : Int) (y : Int) = ((x ||| y : Nat) : Int) := bits_or_u64_nat x y hx hy
theorem not64 (x : Nat) (hx : x < 18446744073709551616) : bits .xor .u64 (if IntKind.u64.signed = true then -1 else IntKind.u64.max) (x : Int) = ((18446744073709551615 - x : Nat) : Int) := by
  have h2 : (BitVec.ofInt 64 (x : Int)).toNat = x := by
    rw [BitVec.ofInt_natCast, BitVec.toNat_ofNat]; exact Nat.mod_eq_of_lt (by omega)
  have h1 : BitVec.ofInt 64 (if IntKind.u64.signed = true then -1 else IntKind.u64.max) = BitVec.allOnes 64 := by decide
  show IntKind.u64.wrap ((BitVec.ofInt 64 (if IntKind.u64.signed = true then -1 else IntKind.u64.max) ^^^ BitVec.ofInt 64 (x : Int)).toNat : Int) = _
  rw [h1, BitVec.allOnes_xor, BitVec.toNat_not, h2, IntKind.wrap_u64]
  omega
theorem below_alloc2 {w : World} (o o' : Obj) : Below w.heap.size w ((w.alloc o).alloc o') := ((Below.refl _ _).alloc (Nat.le_refl _) o).alloc (by simp) o'
theorem below_alloc3 {w : World} (o o' o'' : Obj) : Below w.heap.size w (((w.alloc o).alloc o').alloc o'') := (below_alloc2 o o').alloc (by simp; omega) o''
end Go.Proofs.YtoiegkejkahfgaaDoor

/- class: And, Or, Not. -/
namespace Go.Proofs.YtoiegkejkahfgaaDoor
set_option linter.unusedVariables false
set_option linter.unusedSimpArgs false
open Go.RowKit

set_option maxRecDepth 8000 in
theorem or_any (a b : BS) (w : World) :
    Calls Tryd.prog 87 #[setV a, setV b] w fun e w' => e = .returned (setV (a ||| b)) ∧ Below w.heap.size w w' := by
  rw [setV_eq, setV_eq]
  have hb := @below_alloc3 w (.cells (setL a).toArray 43) (.cells (setL b).toArray 43) (.cells (four (fun _ => 0)).toArray 43)
  have hA := ((Blk.fresh w 43 (setL a)).alloc (.cells (setL b).toArray 43)).alloc (.cells (four (fun _ => 0)).toArray 43)
  have hB := (Blk.fresh (w.alloc (.cells (setL a).toArray 43)) 43 (setL b)).alloc (.cells (four (fun _ => 0)).toArray 43)
  have hC := Blk.fresh ((w.alloc (.cells (setL a).toArray 43)).alloc (.cells (setL b).toArray 43)) 43 (four (fun _ => 0))
  rw [show (w.alloc (.cells (setL a).toArray 43)).heap.size = w.heap.size + 1 by simp] at hB
  rw [show ((w.alloc (.cells (setL a).toArray 43)).alloc (.cells (setL b).toArray 43)).heap.size = w.heap.size + 1 + 1 by simp] at hC
  have HA := hid hA
  have HB := hid hB
  have HC := hid hC
  clear hA hB hC
  go_enter Tryd.func87, Tryd.ntmps87
  go_wp2
  change Code.wp _ _ _ _ (((w.alloc (.cells (setL a).toArray 43)).alloc (.cells (setL b).toArray 43)).alloc (.cells (four (fun _ => 0)).toArray 43))
  generalize ((w.alloc (.cells (setL a).toArray 43)).alloc (.cells (setL b).toArray 43)).alloc (.cells (four (fun _ => 0)).toArray 43) = w3 at *
  generalize (setL a).toArray = Va
  generalize (setL b).toArray = Vb
  go_loopw [6] (fun i wr => ∃ k : Nat, k ≤ 4 ∧ i = .int .i64 k ∧ Hid (Blk wr w.heap.size 43 (mix (wd (a ||| b)) (wd a) k)) ∧ Hid (Blk wr (w.heap.size + 1) 43 (setL b)) ∧ Hid (Blk wr (w.heap.size + 1 + 1) 43 (four (fun _ => 0))) ∧ Below w.heap.size w wr) (fun i _ => 4 - (intOf i).toNat)
  case atStart => exact ⟨0, by omega, rfl, by rw [mix_zero]; exact HA, HB, HC, hb⟩
  case round =>
    obtain ⟨k, hk, rfl, HA, HB, HC, hbk⟩ := hrel
    by_cases hlt : k < 4
    · have hca := (HA.out.at k).trans (mix_get (wd (a ||| b)) (wd a) k hlt)
      have hcb := (HB.out.at k).trans (four_get (wd b) k hlt)
      have hfr := HA.out.free k
      have hS := HA.out.put k (u64V (wd (a ||| b) k))
      rw [mix_set (wd (a ||| b)) (wd a) k hlt] at hS
      have HS := hid hS
      have HB2 := hid (HB.out.other (p := ⟨w.heap.size, k, none⟩) (show w.heap.size + 1 ≠ w.heap.size by omega) (u64V (wd (a ||| b) k)))
      have HC2 := hid (HC.out.other (p := ⟨w.heap.size, k, none⟩) (show w.heap.size + 1 + 1 ≠ w.heap.size by omega) (u64V (wd (a ||| b) k)))
      have hop := or64 (wd a k) (wd b k) (wd_lt a k) (wd_lt b k)
      rw [← wd_or] at hop
      unfold u64V at hca hcb HS HB2 HC2
      clear hS HA HB HC
      generalize wd (a ||| b) k = y at *
      generalize wd a k = x1 at *
      generalize wd b k = x2 at *
      go_wp2
      go_region
      all_goals
        go_wp2
        go_roundw
        case rel => exact ⟨k + 1, by omega, by go_num, HS, HB2, HC2, (hbk.setCell (p := ⟨w.heap.size, k, none⟩) (Nat.le_refl _) _).drew⟩
        case measure => simp [intOf]; omega
    · obtain rfl : k = 4 := by omega
      have hA := HA.out
      rw [mix_all] at hA
      have hg : wr.heap[w.heap.size]? = some (.cells (four (wd (a ||| b))).toArray 43) := hA
      have hz : wr.heap[w.heap.size + 1 + 1]? = some (.cells (four (fun _ => 0)).toArray 43) := HC.out
      have hR := hid (blk_row HC.out (four (wd (a ||| b))))
      have hB := hid (below_row hbk (show w.heap.size ≤ w.heap.size + 1 + 1 by omega) (four (wd (a ||| b))).toArray)
      go_wp2_with (first
        | refine wpList_load_row rfl 43 _ rfl w.heap.size rfl 43 _ (0, 0) _ hg Tryd.underlying43 rfl (set_info _) ?_
        | refine wpList_store_row rfl 43 _ _ rfl (w.heap.size + 1 + 1) (four (wd (a ||| b))).toArray rfl rfl 43 _ hz (set_info _) rfl (four_one _) ?_)
      exact bodyPost_ret (v := .agg (setL (a ||| b)).toArray) (results_cell_row (P := Tryd.prog) (fn := Tryd.f87) rfl _ _ (w.heap.size + 1 + 1) 43 _ (0, 0) _ rfl hR.out Tryd.underlying43 rfl (set_info _)) rfl ⟨rfl, hB.out⟩

set_option maxRecDepth 8000 in
theorem not_any (a : BS) (w : World) :
    Calls Tryd.prog 25 #[setV a] w fun e w' => e = .returned (setV (~~~a)) ∧ Below w.heap.size w w' := by
  rw [setV_eq]
  have hb := @below_alloc2 w (.cells (setL a).toArray 43) (.cells (four (fun _ => 0)).toArray 43)
  have hA := (Blk.fresh w 43 (setL a)).alloc (.cells (four (fun _ => 0)).toArray 43)
  have hC := Blk.fresh (w.alloc (.cells (setL a).toArray 43)) 43 (four (fun _ => 0))
  rw [show (w.alloc (.cells (setL a).toArray 43)).heap.size = w.heap.size + 1 by simp] at hC
  have HA := hid hA
  have HC := hid hC
  clear hA hC
  go_enter Tryd.func25, Tryd.ntmps25
  go_wp2
  change Code.wp _ _ _ _ ((w.alloc (.cells (setL a).toArray 43)).alloc (.cells (four (fun _ => 0)).toArray 43))
  generalize (w.alloc (.cells (setL a).toArray 43)).alloc (.cells (four (fun _ => 0)).toArray 43) = w3 at *
  generalize (setL a).toArray = Va
  go_loopw [4] (fun i wr => ∃ k : Nat, k ≤ 4 ∧ i = .int .i64 k ∧ Hid (Blk wr w.heap.size 43 (mix (wd (~~~a)) (wd a) k)) ∧ Hid (Blk wr (w.heap.size + 1) 43 (four (fun _ => 0))) ∧ Below w.heap.size w wr) (fun i _ => 4 - (intOf i).toNat)
  case atStart => exact ⟨0, by omega, rfl, by rw [mix_zero]; exact HA, HC, hb⟩
  case round =>
    obtain ⟨k, hk, rfl, HA, HC, hbk⟩ := hrel
    by_cases hlt : k < 4
    · have hca := (HA.out.at k).trans (mix_get (wd (~~~a)) (wd a) k hlt)
      have hfr := HA.out.free k
      have hS := HA.out.put k (u64V (wd (~~~a) k))
      rw [mix_set (wd (~~~a)) (wd a) k hlt] at hS
      have HS := hid hS
      have HC2 := hid (HC.out.other (p := ⟨w.heap.size, k, none⟩) (show w.heap.size + 1 ≠ w.heap.size by omega) (u64V (wd (~~~a) k)))
      have hx1 := wd_lt a k
      have HX := hid (show bits .xor .u64 (if IntKind.u64.signed = true then -1 else IntKind.u64.max) ((wd a k : Nat) : Int) = ((wd (~~~a) k : Nat) : Int) by rw [wd_not a k hlt]; exact not64 _ hx1)
      unfold u64V at hca HS HC2
      clear hS HA HC
      generalize wd (~~~a) k = y at *
      generalize wd a k = x1 at *
      go_wp2
      go_roundw
      case rel => exact ⟨k + 1, by omega, by go_num, by rw [HX.out]; exact HS, by rw [HX.out]; exact HC2, (hbk.setCell (p := ⟨w.heap.size, k, none⟩) (Nat.le_refl _) _)⟩
      case measure => simp [intOf]; omega
    · obtain rfl : k = 4 := by omega
      have hA := HA.out
      rw [mix_all] at hA
      have hg : wr.heap[w.heap.size]? = some (.cells (four (wd (~~~a))).toArray 43) := hA
      have hz : wr.heap[w.heap.size + 1]? = some (.cells (four (fun _ => 0)).toArray 43) := HC.out
      have hR := hid (blk_row HC.out (four (wd (~~~a))))
      have hB := hid (below_row hbk (show w.heap.size ≤ w.heap.size + 1 by omega) (four (wd (~~~a))).toArray)
      go_wp2_with (first
        | refine wpList_load_row rfl 43 _ rfl w.heap.size rfl 43 _ (0, 0) _ hg Tryd.underlying43 rfl (set_info _) ?_
        | refine wpList_store_row rfl 43 _ _ rfl (w.heap.size + 1) (four (wd (~~~a))).toArray rfl rfl 43 _ hz (set_info _) rfl (four_one _) ?_)
      exact bodyPost_ret (v := .agg (setL (~~~a)).toArray) (results_cell_row (P := Tryd.prog) (fn := Tryd.f25) rfl _ _ (w.heap.size + 1) 43 _ (0, 0) _ rfl hR.out Tryd.underlying43 rfl (set_info _)) rfl ⟨rfl, hB.out⟩

set_option maxRecDepth 8000 in
theorem all_any (w : World) :
    Calls Tryd.prog 23 #[] w fun e w' => e = .returned (setV (~~~(0#256))) ∧ Below w.heap.size w w' := by
  have hn := fun W => not_any (0#256) W
  rw [show setV (0#256) = .agg #[.int .u64 0, .int .u64 0, .int .u64 0, .int .u64 0] by simp [setV, wd_zero]] at hn
  have hC := Blk.fresh w 43 (four (fun _ => 0))
  have HC := hid hC
  have hb := ((Below.refl w.heap.size w).alloc (Nat.le_refl _) (.cells (four (fun _ => 0)).toArray 43))
  clear hC
  rw [setV_eq (~~~(0#256))] at *
  have HN := hid hn
  clear hn
  go_enter Tryd.func23, Tryd.ntmps23
  go_wp2_with fail
  refine (HN.out _).mono ?_
  rintro e w1 ⟨rfl, hb1⟩
  have hC1 := HC.out.keep hb1
  have hz : w1.heap[w.heap.size]? = some (.cells (four (fun _ => 0)).toArray 43) := hC1
  have hR := hid (blk_row hC1 (four (wd (~~~(0#256)))))
  have hB := hid (below_row (hb.trans (hb1.mono hb.size)) (Nat.le_refl _) (four (wd (~~~(0#256)))).toArray)
  clear hC1
  go_wp2_with (refine wpList_store_row rfl 43 _ _ rfl w.heap.size (four (wd (~~~(0#256)))).toArray rfl rfl 43 _ hz (set_info _) rfl (four_one _) ?_)
  exact bodyPost_ret (v := .agg (setL (~~~(0#256))).toArray) (results_cell_row (P := Tryd.prog) (fn := Tryd.f23) rfl _ _ w.heap.size 43 _ (0, 0) _ rfl hR.out Tryd.underlying43 rfl (set_info _)) rfl ⟨rfl, hB.out⟩
end Go.Proofs.YtoiegkejkahfgaaDoor

/- class: two sets compared. -/
namespace Go.Proofs.YtoiegkejkahfgaaDoor
set_option linter.unusedVariables false
set_option linter.unusedSimpArgs false
open Go.RowKit

theorem bs_eq_words (a b : BS) : decide (a = b) = ((((wd a 0 : Nat) : Int) == ((wd b 0 : Nat) : Int)) && ((((wd a 1 : Nat) : Int) == ((wd b 1 : Nat) : Int)) && ((((wd a 2 : Nat) : Int) == ((wd b 2 : Nat) : Int)) && (((wd a 3 : Nat) : Int) == ((wd b 3 : Nat) : Int))))) := by
  rw [Bool.eq_iff_iff]
  simp only [decide_eq_true_eq, Bool.and_eq_true, beq_iff_eq]
  constructor
  · rintro rfl; exact ⟨rfl, rfl, rfl, rfl⟩
  · rintro ⟨h0, h1, h2, h3⟩
    exact bs_ext (by omega) (by omega) (by omega) (by omega)

theorem run_eq4 (T : TypeId) (hT : Tryd.prog.underlying T = some (.array 4 22)) (d : Nat) (x0 x1 x2 x3 y0 y1 y2 y3 : Int) (w : World) :
    (Op.equalIn (d + 1 + 1) T (.agg #[.int .u64 x0, .int .u64 x1, .int .u64 x2, .int .u64 x3]) (.agg #[.int .u64 y0, .int .u64 y1, .int .u64 y2, .int .u64 y3])).run Tryd.prog w =
      .ok ((x0 == y0) && ((x1 == y1) && ((x2 == y2) && (x3 == y3)))) w := by
  have hs : (sizeOf 22).run Tryd.prog w = .ok 1 w := by kernel_rfl
  have he : ∀ x y, (Op.equalIn (d + 1) 22 (.int .u64 x) (.int .u64 y)).run Tryd.prog w = .ok (x == y) w := fun x y => run_equalIn_int w d 22 .u64 .u64 x y Tryd.underlying22
  rw [Op.equalIn]
  simp only [Sem.run_bind, run_underlying hT, Result.andThen_ok, hs]
  rw [Std.Legacy.Range.forIn_eq_forIn_range']
  simp only [List.range', Std.Legacy.Range.size, Nat.sub_zero, Nat.reduceAdd, Nat.reduceSub, Nat.reduceDiv, List.forIn_cons, List.forIn_nil]
  by_cases h0 : x0 = y0
  · by_cases h1 : x1 = y1
    · by_cases h2 : x2 = y2
      · by_cases h3 : x3 = y3 <;> simp [part, he, h0, h1, h2, h3]
      · simp [part, he, h0, h1, h2]
    · simp [part, he, h0, h1]
  · simp [part, he, h0]

theorem run_eqSet (a b : BS) (w : World) : (binOp .eql 43 (setV a) (setV b)).run Tryd.prog w = .ok (.bool (decide (a = b))) w := by
  unfold setV
  rw [run_eql_struct, run_eq4 43 Tryd.underlying43 9998, Result.andThen_ok, bs_eq_words]
theorem run_neSet (a b : BS) (w : World) : (binOp .neq 43 (setV a) (setV b)).run Tryd.prog w = .ok (.bool (!decide (a = b))) w := by
  unfold setV
  rw [run_neq_struct, run_eq4 43 Tryd.underlying43 9998, Result.andThen_ok, bs_eq_words]
end Go.Proofs.YtoiegkejkahfgaaDoor

/- class: Has, Empty, Check. -/
namespace Go.Proofs.YtoiegkejkahfgaaDoor
set_option linter.unusedVariables false
set_option linter.unusedSimpArgs false
open Go.RowKit

theorem has_bits (a : BS) (c : Nat) : (bits .and .u64 (((wd a (c / 64) : Nat) : Int) / 2 ^ (c % 64)) 1 == 1) = has a c := by
  have h1 : ((wd a (c / 64) : Nat) : Int) / 2 ^ (c % 64) = ((wd a (c / 64) / 2 ^ (c % 64) : Nat) : Int) := by simp
  have h2 := and64 (wd a (c / 64) / 2 ^ (c % 64)) 1 (Nat.lt_of_le_of_lt (Nat.div_le_self _ _) (wd_lt _ _)) (by decide)
  rw [h1]
  have h3 : bits .and .u64 ((wd a (c / 64) / 2 ^ (c % 64) : Nat) : Int) 1 = ((wd a (c / 64) / 2 ^ (c % 64) % 2 : Nat) : Int) := by
    rw [← Nat.and_one_is_mod]; exact h2
  rw [h3, has_wd, Nat.testBit_eq_decide_div_mod_eq]
  generalize wd a (c / 64) / 2 ^ (c % 64) = x
  rw [Bool.eq_iff_iff]
  simp only [beq_iff_eq, decide_eq_true_eq]
  omega
theorem ret_bool {a b : Bool} (h : a = b) : Ending.returned (.bool a) = .returned (.bool b) := by rw [h]
set_option maxRecDepth 8000 in
theorem has_any (a : BS) (c : Nat) (hc : c < 256) (w : World) :
    Calls Tryd.prog 11 #[setV a, .int .u8 (c : Int)] w fun e w' => e = .returned (.bool (has a c)) ∧ Below w.heap.size w w' := by
  rw [setV_eq]
  have hb := ((Below.refl w.heap.size w).alloc (Nat.le_refl _) (.cells (setL a).toArray 43))
  have hca := ((Blk.fresh w 43 (setL a)).at (c / 64)).trans (four_get (wd a) (c / 64) (by omega))
  have hfr := (Blk.fresh w 43 (setL a)).free (c / 64)
  unfold u64V at hca
  go_enter Tryd.func11, Tryd.ntmps11
  generalize (setL a).toArray = Va at *
  go_wp2
  go_ret
  exact ⟨ret_bool (has_bits a c), hb⟩
set_option maxRecDepth 8000 in
theorem empty_any (a : BS) (w : World) :
    Calls Tryd.prog 26 #[setV a] w fun e w' => e = .returned (.bool (decide (a = 0#256))) ∧ Below w.heap.size w w' := by
  have hq := run_eqSet a (0#256)
  rw [show setV (0#256) = .agg #[.int .u64 0, .int .u64 0, .int .u64 0, .int .u64 0] by simp [setV, wd_zero]] at hq
  rw [setV_eq] at hq ⊢
  have hb := ((Below.refl w.heap.size w).alloc (Nat.le_refl _) (.cells (setL a).toArray 43))
  have hg : (w.alloc (.cells (setL a).toArray 43)).heap[w.heap.size]? = some (.cells (setL a).toArray 43) := Blk.fresh w 43 (setL a)
  have hi := set_info (wd a)
  change _ = some (setL a).toArray.size at hi
  generalize (setL a).toArray = Va at *
  go_enter Tryd.func26, Tryd.ntmps26
  go_wp2_with (refine wpList_load_row rfl 43 _ rfl w.heap.size rfl 43 _ (0, 0) _ hg Tryd.underlying43 rfl hi ?_)
  go_ret
  exact ⟨ret_bool (by simp), hb⟩
set_option maxRecDepth 8000 in
theorem check_any (a : BS) (w : World) :
    Calls Tryd.prog 67 #[setV a] w fun e w' => e = .returned (.int .i64 (if a = 0#256 then 160 else 0)) ∧ Below w.heap.size w w' := by
  have HE := hid (fun W => empty_any a W)
  rw [setV_eq] at HE ⊢
  have hb := ((Below.refl w.heap.size w).alloc (Nat.le_refl _) (.cells (setL a).toArray 43))
  have hg : (w.alloc (.cells (setL a).toArray 43)).heap[w.heap.size]? = some (.cells (setL a).toArray 43) := Blk.fresh w 43 (setL a)
  have hi := set_info (wd a)
  change _ = some (setL a).toArray.size at hi
  generalize (setL a).toArray = Va at *
  by_cases h0 : a = 0#256
  · rw [if_pos h0]
    rw [decide_eq_true h0] at HE
    clear h0
    go_enter Tryd.func67, Tryd.ntmps67
    go_wp2_with (first
      | refine wpList_load_row rfl 43 _ rfl w.heap.size rfl 43 _ (0, 0) _ hg Tryd.underlying43 rfl hi ?_
      | (go_at_call 26; refine (HE.out _).mono ?_; rintro e w1 ⟨rfl, hb1⟩))
    go_ret
    exact ⟨rfl, hb.trans (hb1.mono hb.size)⟩
  · rw [if_neg h0]
    rw [decide_eq_false h0] at HE
    clear h0
    go_enter Tryd.func67, Tryd.ntmps67
    go_wp2_with (first
      | refine wpList_load_row rfl 43 _ rfl w.heap.size rfl 43 _ (0, 0) _ hg Tryd.underlying43 rfl hi ?_
      | (go_at_call 26; refine (HE.out _).mono ?_; rintro e w1 ⟨rfl, hb1⟩))
    go_ret
    exact ⟨rfl, hb.trans (hb1.mono hb.size)⟩
end Go.Proofs.YtoiegkejkahfgaaDoor

/- class: And. -/
namespace Go.Proofs.YtoiegkejkahfgaaDoor
set_option linter.unusedVariables false
set_option linter.unusedSimpArgs false
open Go.RowKit

set_option maxRecDepth 8000 in
theorem and_any (a b : BS) (w : World) :
    Calls Tryd.prog 24 #[setV a, setV b] w fun e w' => e = .returned (setV (a &&& b)) ∧ Below w.heap.size w w' := by
  rw [setV_eq, setV_eq]
  have hb := @below_alloc3 w (.cells (setL a).toArray 43) (.cells (setL b).toArray 43) (.cells (four (fun _ => 0)).toArray 43)
  have hA := ((Blk.fresh w 43 (setL a)).alloc (.cells (setL b).toArray 43)).alloc (.cells (four (fun _ => 0)).toArray 43)
  have hB := (Blk.fresh (w.alloc (.cells (setL a).toArray 43)) 43 (setL b)).alloc (.cells (four (fun _ => 0)).toArray 43)
  have hC := Blk.fresh ((w.alloc (.cells (setL a).toArray 43)).alloc (.cells (setL b).toArray 43)) 43 (four (fun _ => 0))
  rw [show (w.alloc (.cells (setL a).toArray 43)).heap.size = w.heap.size + 1 by simp] at hB
  rw [show ((w.alloc (.cells (setL a).toArray 43)).alloc (.cells (setL b).toArray 43)).heap.size = w.heap.size + 1 + 1 by simp] at hC
  have HA := hid hA
  have HB := hid hB
  have HC := hid hC
  clear hA hB hC
  go_enter Tryd.func24, Tryd.ntmps24
  go_wp2
  change Code.wp _ _ _ _ (((w.alloc (.cells (setL a).toArray 43)).alloc (.cells (setL b).toArray 43)).alloc (.cells (four (fun _ => 0)).toArray 43))
  generalize ((w.alloc (.cells (setL a).toArray 43)).alloc (.cells (setL b).toArray 43)).alloc (.cells (four (fun _ => 0)).toArray 43) = w3 at *
  generalize (setL a).toArray = Va
  generalize (setL b).toArray = Vb
  go_loopw [6] (fun i wr => ∃ k : Nat, k ≤ 4 ∧ i = .int .i64 k ∧ Hid (Blk wr w.heap.size 43 (mix (wd (a &&& b)) (wd a) k)) ∧ Hid (Blk wr (w.heap.size + 1) 43 (setL b)) ∧ Hid (Blk wr (w.heap.size + 1 + 1) 43 (four (fun _ => 0))) ∧ Below w.heap.size w wr) (fun i _ => 4 - (intOf i).toNat)
  case atStart => exact ⟨0, by omega, rfl, by rw [mix_zero]; exact HA, HB, HC, hb⟩
  case round =>
    obtain ⟨k, hk, rfl, HA, HB, HC, hbk⟩ := hrel
    by_cases hlt : k < 4
    · have hca := (HA.out.at k).trans (mix_get (wd (a &&& b)) (wd a) k hlt)
      have hcb := (HB.out.at k).trans (four_get (wd b) k hlt)
      have hfr := HA.out.free k
      have hS := HA.out.put k (u64V (wd (a &&& b) k))
      rw [mix_set (wd (a &&& b)) (wd a) k hlt] at hS
      have HS := hid hS
      have HB2 := hid (HB.out.other (p := ⟨w.heap.size, k, none⟩) (show w.heap.size + 1 ≠ w.heap.size by omega) (u64V (wd (a &&& b) k)))
      have HC2 := hid (HC.out.other (p := ⟨w.heap.size, k, none⟩) (show w.heap.size + 1 + 1 ≠ w.heap.size by omega) (u64V (wd (a &&& b) k)))
      have hop := and64 (wd a k) (wd b k) (wd_lt a k) (wd_lt b k)
      rw [← wd_and] at hop
      unfold u64V at hca hcb HS HB2 HC2
      clear hS HA HB HC
      generalize wd (a &&& b) k = y at *
      generalize wd a k = x1 at *
      generalize wd b k = x2 at *
      go_wp2
      go_region
      all_goals
        go_wp2
        go_roundw
        case rel => exact ⟨k + 1, by omega, by go_num, HS, HB2, HC2, (hbk.setCell (p := ⟨w.heap.size, k, none⟩) (Nat.le_refl _) _).drew⟩
        case measure => simp [intOf]; omega
    · obtain rfl : k = 4 := by omega
      have hA := HA.out
      rw [mix_all] at hA
      have hg : wr.heap[w.heap.size]? = some (.cells (four (wd (a &&& b))).toArray 43) := hA
      have hz : wr.heap[w.heap.size + 1 + 1]? = some (.cells (four (fun _ => 0)).toArray 43) := HC.out
      have hR := hid (blk_row HC.out (four (wd (a &&& b))))
      have hB := hid (below_row hbk (show w.heap.size ≤ w.heap.size + 1 + 1 by omega) (four (wd (a &&& b))).toArray)
      go_wp2_with (first
        | refine wpList_load_row rfl 43 _ rfl w.heap.size rfl 43 _ (0, 0) _ hg Tryd.underlying43 rfl (set_info _) ?_
        | refine wpList_store_row rfl 43 _ _ rfl (w.heap.size + 1 + 1) (four (wd (a &&& b))).toArray rfl rfl 43 _ hz (set_info _) rfl (four_one _) ?_)
      exact bodyPost_ret (v := .agg (setL (a &&& b)).toArray) (results_cell_row (P := Tryd.prog) (fn := Tryd.f24) rfl _ _ (w.heap.size + 1 + 1) 43 _ (0, 0) _ rfl hR.out Tryd.underlying43 rfl (set_info _)) rfl ⟨rfl, hB.out⟩
end Go.Proofs.YtoiegkejkahfgaaDoor
