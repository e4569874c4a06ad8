/- class: a set's value; four words in a block. -/
import Derived.Test.YtimffgmbchpfeaaPop
import Derived.Test.YtimffgmbchpfeaaMem
import Derived.Test.YtimffgmbchpfeaaSmall
import Derived.Laws.Bits64b
import Derived.Laws.Rows
import Derived.Laws.Unary
namespace Go.Proofs.Ytimffgmbchpfeaa
open Go.RowKit

def u64V (n : Nat) : Value := .int .u64 (n : Int)
/-- Four words. -/
def four (f : Nat → Nat) : List Value := [u64V (f 0), u64V (f 1), u64V (f 2), u64V (f 3)]
def setL (a : BS) : List Value := four (wd a)
/-- A set's value. -/
def setV (a : BS) : Value := .agg #[.int .u64 ((wd a 0 : Nat) : Int), .int .u64 ((wd a 1 : Nat) : Int), .int .u64 ((wd a 2 : Nat) : Int), .int .u64 ((wd a 3 : Nat) : Int)]
theorem setV_eq (a : BS) : setV a = .agg (setL a).toArray := rfl
/-- The first k of them as f has them, the others as g. -/
def mix (f g : Nat → Nat) (k : Nat) : List Value := four (fun i => if i < k then f i else g i)
theorem mix_zero (f g : Nat → Nat) : mix f g 0 = four g := by simp [mix]
theorem mix_all (f g : Nat → Nat) : mix f g 4 = four f := by simp [mix, four]
theorem four_get (f : Nat → Nat) (k : Nat) (hk : k < 4) : (four f)[k]? = some (u64V (f k)) := by
  have : k = 0 ∨ k = 1 ∨ k = 2 ∨ k = 3 := by omega
  rcases this with rfl | rfl | rfl | rfl <;> rfl
theorem four_set (f : Nat → Nat) (k x : Nat) (hk : k < 4) : (four f).set k (u64V x) = four (fun i => if i = k then x else f i) := by
  have : k = 0 ∨ k = 1 ∨ k = 2 ∨ k = 3 := by omega
  rcases this with rfl | rfl | rfl | rfl <;> simp [four]
theorem Blk.cells4 {w : World} {g : Nat} {t : TypeId} {a : BS} (h : Blk w g t (setL a)) : w.cell? ⟨g, 0, none⟩ = some (.int .u64 ((wd a 0 : Nat) : Int)) ∧ w.cell? ⟨g, 1, none⟩ = some (.int .u64 ((wd a 1 : Nat) : Int)) ∧
    w.cell? ⟨g, 2, none⟩ = some (.int .u64 ((wd a 2 : Nat) : Int)) ∧ w.cell? ⟨g, 3, none⟩ = some (.int .u64 ((wd a 3 : Nat) : Int)) := ⟨h.at 0, h.at 1, h.at 2, h.at 3⟩
theorem mix_get (f g : Nat → Nat) (k : Nat) (hk : k < 4) : (mix f g k)[k]? = some (u64V (g k)) := by
  unfold mix
  rw [four_get _ _ hk, if_neg (Nat.lt_irrefl _)]
theorem mix_set (f g : Nat → Nat) (k : Nat) (hk : k < 4) : (mix f g k).set k (u64V (f k)) = mix f g (k + 1) := by
  unfold mix
  rw [four_set _ _ _ hk]
  congr 1
  funext i
  by_cases h : i = k
  · subst h; simp
  · by_cases h2 : i < k
    · simp [h, h2, show i < k + 1 by omega]
    · simp [h, h2, show ¬ i < k + 1 by omega]
theorem four_size (f : Nat → Nat) : (four f).toArray.size = 4 := rfl
theorem four_one (f : Nat → Nat) : (four f).toArray.all (·.oneCell') = true := by simp [four, u64V, Value.oneCell']
theorem set_info (f : Nat → Nat) : (Try.prog.info? 65).map (·.size) = some (four f).toArray.size := by
  rw [four_size]; kernel_rfl
theorem blk_row {w : World} {g : Nat} {t : TypeId} {cs : List Value} (h : Blk w g t cs) (cs' : List Value) : Blk (w.setRow g cs'.toArray) g t cs' := setRow_heap w g _ _ t (0, 0) h
theorem below_row {B g : Nat} {a w : World} (h : Below B a w) (hg : B ≤ g) (cs : Array Value) : Below B a (w.setRow g cs) :=
  ⟨h.os, h.tape, h.output, by have := h.size; simpa [World.setRow] using this, fun k hk => (setRow_other w g k cs (by omega)).trans (h.block k hk)⟩
theorem and64 (x y : Nat) (hx : x < 18446744073709551616) (hy : y < 18446744073709551616) : bits .and .u64 (x : Int) (y : Int) = ((x &&& y : Nat) : Int) := bits_and_u64_nat x y hx hy
theorem or64 (x y : Nat) (hx : x < 18446744073709551616) (hy : y < 18446744073709551616) : bits .or .u64 (x : Int) (y : Int) = ((x ||| y : Nat) : Int) := bits_or_u64_nat x y hx hy
theorem not64 (x : Nat) (hx : x < 18446744073709551616) : bits .xor .u64 (if IntKind.u64.signed = true then -1 else IntKind.u64.max) (x : Int) = ((18446744073709551615 - x : Nat) : Int) := by
  have h2 : (BitVec.ofInt 64 (x : Int)).toNat = x := by
    rw [BitVec.ofInt_natCast, BitVec.toNat_ofNat]; exact Nat.mod_eq_of_lt (by omega)
  have h1 : BitVec.ofInt 64 (if IntKind.u64.signed = true then -1 else IntKind.u64.max) = BitVec.allOnes 64 := by decide
  show IntKind.u64.wrap ((BitVec.ofInt 64 (if IntKind.u64.signed = true then -1 else IntKind.u64.max) ^^^ BitVec.ofInt 64 (x : Int)).toNat : Int) = _
  rw [h1, BitVec.allOnes_xor, BitVec.toNat_not, h2, IntKind.wrap_u64]
  omega
theorem below_alloc2 {w : World} (o o' : Obj) : Below w.heap.size w ((w.alloc o).alloc o') := ((Below.refl _ _).alloc (Nat.le_refl _) o).alloc (by simp) o'
theorem below_alloc3 {w : World} (o o' o'' : Obj) : Below w.heap.size w (((w.alloc o).alloc o').alloc o'') := (below_alloc2 o o').alloc (by simp; omega) o''
end Go.Proofs.Ytimffgmbchpfeaa

/- class: And, Or, Not. -/
namespace Go.Proofs.Ytimffgmbchpfeaa
open Go.RowKit

set_option maxRecDepth 8000 in
theorem or_any (a b : BS) (w : World) :
    Calls Try.prog 63 #[setV a, setV b] w fun e w' => e = .returned (setV (a ||| b)) ∧ Below w.heap.size w w' := by
  rw [setV_eq, setV_eq]
  have hb := @below_alloc3 w (.cells (setL a).toArray 65) (.cells (setL b).toArray 65) (.cells (four (fun _ => 0)).toArray 65)
  have hA := ((Blk.fresh w 65 (setL a)).alloc (.cells (setL b).toArray 65)).alloc (.cells (four (fun _ => 0)).toArray 65)
  have hB := (Blk.fresh (w.alloc (.cells (setL a).toArray 65)) 65 (setL b)).alloc (.cells (four (fun _ => 0)).toArray 65)
  have hC := Blk.fresh ((w.alloc (.cells (setL a).toArray 65)).alloc (.cells (setL b).toArray 65)) 65 (four (fun _ => 0))
  rw [show (w.alloc (.cells (setL a).toArray 65)).heap.size = w.heap.size + 1 by simp] at hB
  rw [show ((w.alloc (.cells (setL a).toArray 65)).alloc (.cells (setL b).toArray 65)).heap.size = w.heap.size + 1 + 1 by simp] at hC
  have HA := hid hA
  have HB := hid hB
  have HC := hid hC
  clear hA hB hC
  go_enter Try.func63, Try.ntmps63
  go_wp2
  change Code.wp _ _ _ _ (((w.alloc (.cells (setL a).toArray 65)).alloc (.cells (setL b).toArray 65)).alloc (.cells (four (fun _ => 0)).toArray 65))
  generalize ((w.alloc (.cells (setL a).toArray 65)).alloc (.cells (setL b).toArray 65)).alloc (.cells (four (fun _ => 0)).toArray 65) = w3 at *
  generalize (setL a).toArray = Va
  generalize (setL b).toArray = Vb
  go_loopw [6] (fun i wr => ∃ k : Nat, k ≤ 4 ∧ i = .int .i64 k ∧ Hid (Blk wr w.heap.size 65 (mix (wd (a ||| b)) (wd a) k)) ∧ Hid (Blk wr (w.heap.size + 1) 65 (setL b)) ∧ Hid (Blk wr (w.heap.size + 1 + 1) 65 (four (fun _ => 0))) ∧ Below w.heap.size w wr) (fun i _ => 4 - (intOf i).toNat)
  case atStart => exact ⟨0, by omega, rfl, by rw [mix_zero]; exact HA, HB, HC, hb⟩
  case round =>
    obtain ⟨k, hk, rfl, HA, HB, HC, hbk⟩ := hrel
    by_cases hlt : k < 4
    · have hca := (HA.out.at k).trans (mix_get (wd (a ||| b)) (wd a) k hlt)
      have hcb := (HB.out.at k).trans (four_get (wd b) k hlt)
      have hfr := HA.out.free k
      have hS := HA.out.put k (u64V (wd (a ||| b) k))
      rw [mix_set (wd (a ||| b)) (wd a) k hlt] at hS
      have HS := hid hS
      have HB2 := hid (HB.out.other (p := ⟨w.heap.size, k, none⟩) (show w.heap.size + 1 ≠ w.heap.size by omega) (u64V (wd (a ||| b) k)))
      have HC2 := hid (HC.out.other (p := ⟨w.heap.size, k, none⟩) (show w.heap.size + 1 + 1 ≠ w.heap.size by omega) (u64V (wd (a ||| b) k)))
      have hop := or64 (wd a k) (wd b k) (wd_lt a k) (wd_lt b k)
      rw [← wd_or] at hop
      unfold u64V at hca hcb HS HB2 HC2
      clear hS HA HB HC
      generalize wd (a ||| b) k = y at *
      generalize wd a k = x1 at *
      generalize wd b k = x2 at *
      go_wp2
      go_region
      all_goals
        go_wp2
        go_roundw
        case rel => exact ⟨k + 1, by omega, by go_num, HS, HB2, HC2, (hbk.setCell (p := ⟨w.heap.size, k, none⟩) (Nat.le_refl _) _).drew⟩
        case measure => simp [intOf]; omega
    · obtain rfl : k = 4 := by omega
      have hA := HA.out
      rw [mix_all] at hA
      have hg : wr.heap[w.heap.size]? = some (.cells (four (wd (a ||| b))).toArray 65) := hA
      have hz : wr.heap[w.heap.size + 1 + 1]? = some (.cells (four (fun _ => 0)).toArray 65) := HC.out
      have hR := hid (blk_row HC.out (four (wd (a ||| b))))
      have hB := hid (below_row hbk (show w.heap.size ≤ w.heap.size + 1 + 1 by omega) (four (wd (a ||| b))).toArray)
      go_wp2_with (first
        | refine wpList_load_row rfl 65 _ rfl w.heap.size rfl 65 _ (0, 0) _ hg Try.underlying65 rfl (set_info _) ?_
        | refine wpList_store_row rfl 65 _ _ rfl (w.heap.size + 1 + 1) (four (wd (a ||| b))).toArray rfl rfl 65 _ hz (set_info _) rfl (four_one _) ?_)
      exact bodyPost_ret (v := .agg (setL (a ||| b)).toArray) (results_cell_row (P := Try.prog) (fn := Try.f63) rfl _ _ (w.heap.size + 1 + 1) 65 _ (0, 0) _ rfl hR.out Try.underlying65 rfl (set_info _)) rfl ⟨rfl, hB.out⟩

set_option maxRecDepth 8000 in
theorem not_any (a : BS) (w : World) :
    Calls Try.prog 61 #[setV a] w fun e w' => e = .returned (setV (~~~a)) ∧ Below w.heap.size w w' := by
  rw [setV_eq]
  have hb := @below_alloc2 w (.cells (setL a).toArray 65) (.cells (four (fun _ => 0)).toArray 65)
  have hA := (Blk.fresh w 65 (setL a)).alloc (.cells (four (fun _ => 0)).toArray 65)
  have hC := Blk.fresh (w.alloc (.cells (setL a).toArray 65)) 65 (four (fun _ => 0))
  rw [show (w.alloc (.cells (setL a).toArray 65)).heap.size = w.heap.size + 1 by simp] at hC
  have HA := hid hA
  have HC := hid hC
  clear hA hC
  go_enter Try.func61, Try.ntmps61
  go_wp2
  change Code.wp _ _ _ _ ((w.alloc (.cells (setL a).toArray 65)).alloc (.cells (four (fun _ => 0)).toArray 65))
  generalize (w.alloc (.cells (setL a).toArray 65)).alloc (.cells (four (fun _ => 0)).toArray 65) = w3 at *
  generalize (setL a).toArray = Va
  go_loopw [4] (fun i wr => ∃ k : Nat, k ≤ 4 ∧ i = .int .i64 k ∧ Hid (Blk wr w.heap.size 65 (mix (wd (~~~a)) (wd a) k)) ∧ Hid (Blk wr (w.heap.size + 1) 65 (four (fun _ => 0))) ∧ Below w.heap.size w wr) (fun i _ => 4 - (intOf i).toNat)
  case atStart => exact ⟨0, by omega, rfl, by rw [mix_zero]; exact HA, HC, hb⟩
  case round =>
    obtain ⟨k, hk, rfl, HA, HC, hbk⟩ := hrel
    by_cases hlt : k < 4
    · have hca := (HA.out.at k).trans (mix_get (wd (~~~a)) (wd a) k hlt)
      have hfr := HA.out.free k
      have hS := HA.out.put k (u64V (wd (~~~a) k))
      rw [mix_set (wd (~~~a)) (wd a) k hlt] at hS
      have HS := hid hS
      have HC2 := hid (HC.out.other (p := ⟨w.heap.size, k, none⟩) (show w.heap.size + 1 ≠ w.heap.size by omega) (u64V (wd (~~~a) k)))
      have hx1 := wd_lt a k
      have HX := hid (show bits .xor .u64 (if IntKind.u64.signed = true then -1 else IntKind.u64.max) ((wd a k : Nat) : Int) = ((wd (~~~a) k : Nat) : Int) by rw [wd_not a k hlt]; exact not64 _ hx1)
      unfold u64V at hca HS HC2
      clear hS HA HC
      generalize wd (~~~a) k = y at *
      generalize wd a k = x1 at *
      go_wp2
      go_roundw
      case rel => exact ⟨k + 1, by omega, by go_num, by rw [HX.out]; exact HS, by rw [HX.out]; exact HC2, (hbk.setCell (p := ⟨w.heap.size, k, none⟩) (Nat.le_refl _) _)⟩
      case measure => simp [intOf]; omega
    · obtain rfl : k = 4 := by omega
      have hA := HA.out
      rw [mix_all] at hA
      have hg : wr.heap[w.heap.size]? = some (.cells (four (wd (~~~a))).toArray 65) := hA
      have hz : wr.heap[w.heap.size + 1]? = some (.cells (four (fun _ => 0)).toArray 65) := HC.out
      have hR := hid (blk_row HC.out (four (wd (~~~a))))
      have hB := hid (below_row hbk (show w.heap.size ≤ w.heap.size + 1 by omega) (four (wd (~~~a))).toArray)
      go_wp2_with (first
        | refine wpList_load_row rfl 65 _ rfl w.heap.size rfl 65 _ (0, 0) _ hg Try.underlying65 rfl (set_info _) ?_
        | refine wpList_store_row rfl 65 _ _ rfl (w.heap.size + 1) (four (wd (~~~a))).toArray rfl rfl 65 _ hz (set_info _) rfl (four_one _) ?_)
      exact bodyPost_ret (v := .agg (setL (~~~a)).toArray) (results_cell_row (P := Try.prog) (fn := Try.f61) rfl _ _ (w.heap.size + 1) 65 _ (0, 0) _ rfl hR.out Try.underlying65 rfl (set_info _)) rfl ⟨rfl, hB.out⟩

set_option maxRecDepth 8000 in
theorem all_any (w : World) :
    Calls Try.prog 55 #[] w fun e w' => e = .returned (setV (~~~(0#256))) ∧ Below w.heap.size w w' := by
  have hn := fun W => not_any (0#256) W
  rw [show setV (0#256) = .agg #[.int .u64 0, .int .u64 0, .int .u64 0, .int .u64 0] by simp [setV, wd_zero]] at hn
  have hC := Blk.fresh w 65 (four (fun _ => 0))
  have HC := hid hC
  have hb := ((Below.refl w.heap.size w).alloc (Nat.le_refl _) (.cells (four (fun _ => 0)).toArray 65))
  clear hC
  rw [setV_eq (~~~(0#256))] at *
  have HN := hid hn
  clear hn
  go_enter Try.func55, Try.ntmps55
  go_wp2_with fail
  refine (HN.out _).mono ?_
  rintro e w1 ⟨rfl, hb1⟩
  have hC1 := HC.out.keep hb1
  have hz : w1.heap[w.heap.size]? = some (.cells (four (fun _ => 0)).toArray 65) := hC1
  have hR := hid (blk_row hC1 (four (wd (~~~(0#256)))))
  have hB := hid (below_row (hb.trans (hb1.mono hb.size)) (Nat.le_refl _) (four (wd (~~~(0#256)))).toArray)
  clear hC1
  go_wp2_with (refine wpList_store_row rfl 65 _ _ rfl w.heap.size (four (wd (~~~(0#256)))).toArray rfl rfl 65 _ hz (set_info _) rfl (four_one _) ?_)
  exact bodyPost_ret (v := .agg (setL (~~~(0#256))).toArray) (results_cell_row (P := Try.prog) (fn := Try.f55) rfl _ _ w.heap.size 65 _ (0, 0) _ rfl hR.out Try.underlying65 rfl (set_info _)) rfl ⟨rfl, hB.out⟩
end Go.Proofs.Ytimffgmbchpfeaa
