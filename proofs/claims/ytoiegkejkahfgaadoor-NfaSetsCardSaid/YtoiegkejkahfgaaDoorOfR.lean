/- class: Len. -/
import Derived.Test.YtoiegkejkahfgaaDoorCls2
import Derived.Laws.Externs
namespace Go.Proofs.YtoiegkejkahfgaaDoor
set_option linter.unusedVariables false
set_option linter.unusedSimpArgs false
open Go.RowKit

theorem rep85 : rep8 85 8 = 6148914691236517205 := by decide
theorem rep51 : rep8 51 8 = 3689348814741910323 := by decide
theorem rep15 : rep8 15 8 = 1085102592571150095 := by decide
theorem wrap_u64_nat (x : Nat) (h : x < 18446744073709551616) : IntKind.u64.wrap (x : Int) = (x : Int) := by rw [IntKind.wrap_u64]; omega
theorem and_le_r (x m : Nat) : x &&& m ≤ m := Nat.and_le_right
end Go.Proofs.YtoiegkejkahfgaaDoor

/- class: Name; strings.IndexByte. -/
namespace Go.Proofs.YtoiegkejkahfgaaDoor
set_option linter.unusedVariables false
set_option linter.unusedSimpArgs false
open Go.RowKit

theorem idx_run (s : ByteArray) (c : Nat) (w : World) : (callFunc 84 #[.string s, .int .u8 (c : Int)]).run Tryd.prog w = .ok (.value (.int .i64 (firstIdx s c.toUInt8))) w := by
  rw [run_callFunc_extern Tryd.func84 (by kernel_rfl) (by kernel_rfl) (by kernel_rfl) (e := Extern.BytealgIndexByte.indexByte) (by kernel_rfl), run_indexByte_string]
  simp only [Result.andThen, Int.toNat_natCast]
theorem index_any (s : ByteArray) (c : Nat) (w : World) :
    Calls Tryd.prog 74 #[.string s, .int .u8 (c : Int)] w fun e w' => e = .returned (.int .i64 (firstIdx s c.toUInt8)) ∧ w = w' := by
  have hr := idx_run s c
  generalize firstIdx s c.toUInt8 = k at hr ⊢
  go_enter Tryd.func74, Tryd.ntmps74
  go_wp2
  go_ret
  exact ⟨rfl, rfl⟩

/-- The signs that mean something of their own. -/
def clsSigns : ByteArray := ⟨#[92, 47, 91, 93, 40, 41, 123, 125, 124, 42, 43, 63, 46, 45, 94, 35, 34]⟩
def hexD (k : Nat) : UInt8 := if k < 10 then (48 + k).toUInt8 else (87 + k).toUInt8
/-- Does a byte stand for itself? -/
def plain (c : Nat) : Bool := decide (32 < c) && (decide (c ≤ 126) && decide (firstIdx clsSigns c.toUInt8 < 0))
/-- A byte's name. -/
def nameL (c : Nat) : List UInt8 := if plain c then [c.toUInt8] else [92, 120, hexD (c / 16), hexD (c % 16)]

theorem enc_one (c : Nat) (h : c < 127) : Utf8.encode (c : Int) = ⟨[c.toUInt8].toArray⟩ := by
  have hv : Utf8.valid (c : Int) = true := by simp [Utf8.valid]; omega
  unfold Utf8.encode
  simp [hv, show c < 128 by omega]
theorem not_neg_of {z : Int} (h : 0 ≤ z) : decide (z < 0) = false := decide_eq_false (by omega)
theorem hex_ix (k : Nat) (hk : k < 16) (W : World) : (Instr.index 9 (.string ⟨#[48, 49, 50, 51, 52, 53, 54, 55, 56, 57, 97, 98, 99, 100, 101, 102]⟩) (.int .u8 (k : Int))).run Tryd.prog W = .ok (.int .u8 ((hexD k).toNat : Int)) W := by
  have : k = 0 ∨ k = 1 ∨ k = 2 ∨ k = 3 ∨ k = 4 ∨ k = 5 ∨ k = 6 ∨ k = 7 ∨ k = 8 ∨ k = 9 ∨ k = 10 ∨ k = 11 ∨ k = 12 ∨ k = 13 ∨ k = 14 ∨ k = 15 := by omega
  rcases this with rfl | rfl | rfl | rfl | rfl | rfl | rfl | rfl | rfl | rfl | rfl | rfl | rfl | rfl | rfl | rfl <;> (show _ = _; kernel_rfl)
theorem and15 (c : Nat) (hc : c < 256) : bits .and .u8 (c : Int) 15 = ((c % 16 : Nat) : Int) := by
  have h1 : (BitVec.ofInt 8 (c : Int)).toNat = c := by
    rw [BitVec.ofInt_natCast, BitVec.toNat_ofNat]; exact Nat.mod_eq_of_lt (by omega)
  have h2 : (BitVec.ofInt 8 (15 : Int)).toNat = 15 := by decide
  show IntKind.u8.wrap ((BitVec.ofInt 8 (c : Int) &&& BitVec.ofInt 8 15).toNat : Int) = _
  rw [BitVec.toNat_and, h1, h2, show c &&& 15 = c % 16 from Nat.and_two_pow_sub_one_eq_mod c 4]
  simp [IntKind.wrap, IntKind.bits, IntKind.signed]
  omega
theorem RdB.two (w : World) (x y : UInt8) : RdB (w.alloc (.cells #[.int .u8 (x.toNat : Int), .int .u8 (y.toNat : Int)] 5)) (some ⟨w.heap.size, 0, none⟩) 2 [x, y] := by
  have h := Blk.fresh w 5 [.int .u8 (x.toNat : Int), .int .u8 (y.toNat : Int)]
  refine ⟨rfl, fun _ => ⟨w.heap.size, 0, rfl, h.lt, fun j hj => ?_⟩⟩
  rw [Nat.zero_add, show (#[Value.int .u8 (x.toNat : Int), .int .u8 (y.toNat : Int)] : Array Value) = [Value.int .u8 (x.toNat : Int), .int .u8 (y.toNat : Int)].toArray from rfl, h.at j]
  have : j = 0 ∨ j = 1 := by simp at hj; omega
  rcases this with rfl | rfl <;> rfl
end Go.Proofs.YtoiegkejkahfgaaDoor

/- class: Of, Range, lastOf. -/
namespace Go.Proofs.YtoiegkejkahfgaaDoor
set_option linter.unusedVariables false
set_option linter.unusedSimpArgs false
open Go.RowKit

/-- The set of some bytes. -/
def ofL (l : List UInt8) : BS := l.foldl (fun s c => s ||| bit c.toNat) 0#256
theorem ofL_snoc (l : List UInt8) (c : UInt8) : ofL (l ++ [c]) = ofL l ||| bit c.toNat := by simp [ofL, List.foldl_append]
theorem ofL_take (l : List UInt8) (k : Nat) (h : k < l.length) : ofL (l.take (k + 1)) = ofL (l.take k) ||| bit l[k].toNat := by
  rw [List.take_succ_eq_append_getElem h, ofL_snoc]
theorem has_ofL (l : List UInt8) (c : Nat) : has (ofL l) c = l.any (fun d => d.toNat == c) := by
  suffices h : ∀ s : BS, has (l.foldl (fun s c => s ||| bit c.toNat) s) c = (has s c || l.any (fun d => d.toNat == c)) by
    have := h 0#256
    rw [has_zero, Bool.false_or] at this
    exact this
  induction l with
  | nil => intro s; simp
  | cons d l ih =>
    intro s
    rw [List.foldl_cons, ih, has_or, has_bit _ _ (UInt8.toNat_lt d), List.any_cons, Bool.or_assoc]
    congr 2
    rw [Bool.eq_iff_iff]
    simp only [decide_eq_true_eq, beq_iff_eq]
    exact eq_comm
/-- So many bytes from one on. -/
def rngN (f : Nat) : Nat → BS
  | 0 => 0#256
  | k + 1 => rngN f k ||| bit (f + k)
def rng (f t : Nat) : BS := rngN f (t + 1 - f)
theorem has_rngN (f k c : Nat) (h : f + k ≤ 256) : has (rngN f k) c = (decide (f ≤ c) && decide (c < f + k)) := by
  induction k with
  | zero =>
    rw [rngN, has_zero]
    rw [Bool.eq_iff_iff]
    simp
  | succ k ih =>
    rw [rngN, has_or, ih (by omega), has_bit _ _ (by omega)]
    rw [Bool.eq_iff_iff]
    simp
    omega
theorem has_rng (f t c : Nat) (hf : f < 256) (ht : t < 256) : has (rng f t) c = (decide (f ≤ c) && decide (c ≤ t)) := by
  unfold rng
  rw [has_rngN _ _ _ (by omega)]
  rw [Bool.eq_iff_iff]
  simp
  omega
theorem wd_or_bit (s : BS) (c i : Nat) (hc : c < 256) : wd (s ||| bit c) i = if i = c / 64 then wd s i ||| 2 ^ (c % 64) else wd s i := by
  rw [wd_or]
  by_cases h : i = c / 64
  · subst h; rw [if_pos rfl, wd_bit_self _ hc]
  · rw [if_neg h, wd_bit_other _ _ hc h, Nat.or_zero]
theorem setL_or_bit (s : BS) (c : Nat) (hc : c < 256) : (setL s).set (c / 64) (u64V (wd (s ||| bit c) (c / 64))) = setL (s ||| bit c) := by
  unfold setL
  rw [four_set _ _ _ (by omega)]
  congr 1
  funext i
  by_cases h : i = c / 64
  · subst h; simp
  · rw [if_neg h, wd_or_bit _ _ _ hc, if_neg h]
theorem or_bit64 (s : BS) (c : Nat) (hc : c < 256) : bits .or .u64 ((wd s (c / 64) : Nat) : Int) (IntKind.u64.wrap (2 ^ (c % 64))) = ((wd (s ||| bit c) (c / 64) : Nat) : Int) := by
  have hp : 2 ^ (c % 64) < 18446744073709551616 := Nat.pow_lt_pow_right (n := 64) (by decide) (Nat.mod_lt _ (by decide))
  have e : ((2 : Int) ^ (c % 64)) = ((2 ^ (c % 64) : Nat) : Int) := by simp
  rw [e, wrap_u64_nat _ hp, or64 _ _ (wd_lt _ _) hp, wd_or_bit _ _ _ hc, if_pos rfl]
theorem Blk_cs {w : World} {g : Nat} {t : TypeId} {cs cs' : List Value} (h : Blk w g t cs) (e : cs = cs') : Blk w g t cs' := e ▸ h
theorem pow_lt64 (i : Nat) (h : i < 64) : 2 ^ i < 18446744073709551616 := Nat.pow_lt_pow_right (n := 64) (by decide) h

set_option maxRecDepth 8000 in
theorem of_any {w : World} {A : Option Addr} {n cap : Nat} {l : List UInt8} (hR : RdB w A n l) (hn : n ≤ 9223372036854775807) :
    Calls Tryd.prog 83 #[.slice A n cap] w fun e w' => e = .returned (setV (ofL l)) ∧ Below w.heap.size w w' := by
  have hb := @below_alloc2 w (.cells (four (fun _ => 0)).toArray 43) (.cells (four (fun _ => 0)).toArray 43)
  have hC := (Blk.fresh w 43 (four (fun _ => 0))).alloc (.cells (four (fun _ => 0)).toArray 43)
  have hA := Blk.fresh (w.alloc (.cells (four (fun _ => 0)).toArray 43)) 43 (four (fun _ => 0))
  rw [show (w.alloc (.cells (four (fun _ => 0)).toArray 43)).heap.size = w.heap.size + 1 by simp] at hA
  have hs0 : four (fun _ => 0) = setL (0#256) := by simp [setL, four, wd_zero]
  have hA := Blk_cs hA hs0
  have HA := hid hA
  have HC := hid hC
  have HL := hid hR.1
  have HR := hid hR
  clear hA hC hs0
  go_enter Tryd.func83, Tryd.ntmps83
  go_wp2
  change Code.wp _ _ _ _ ((w.alloc (.cells (four (fun _ => 0)).toArray 43)).alloc (.cells (four (fun _ => 0)).toArray 43))
  generalize (w.alloc (.cells (four (fun _ => 0)).toArray 43)).alloc (.cells (four (fun _ => 0)).toArray 43) = w3 at *
  go_loopw [8] (fun i wr => ∃ k : Nat, k ≤ n ∧ i = .int .i64 k ∧ Hid (Blk wr (w.heap.size + 1) 43 (setL (ofL (l.take k)))) ∧ Hid (Blk wr w.heap.size 43 (four (fun _ => 0))) ∧ Below w.heap.size w wr) (fun i _ => n - (intOf i).toNat)
  case atStart => exact ⟨0, by omega, rfl, HA, HC, hb⟩
  case round =>
    obtain ⟨k, hk, rfl, HA, HC, hbk⟩ := hrel
    by_cases hlt : k < n
    · obtain ⟨b, o, rfl, hbl, hcell⟩ := HR.out.2 (by omega)
      have hlk : k < l.length := by rw [HL.out]; exact hlt
      have hce : wr.cell? ⟨b, o + k, none⟩ = some (.int .u8 (l[k].toNat : Int)) := (hbk.cell (p := ⟨b, o + k, none⟩) hbl).trans (hcell k hlk)
      have HT := hid (ofL_take l k hlk)
      clear hcell
      have hc : l[k].toNat < 256 := UInt8.toNat_lt _
      generalize l[k].toNat = c at *
      generalize ofL (l.take k) = s at *
      have hca := (HA.out.at (c / 64)).trans (four_get (wd s) (c / 64) (by omega))
      have hfr := HA.out.free (c / 64)
      have hS := HA.out.put (c / 64) (u64V (wd (s ||| bit c) (c / 64)))
      rw [setL_or_bit s c hc] at hS
      have HS := hid hS
      have HC2 := hid (HC.out.other (p := ⟨w.heap.size + 1, c / 64, none⟩) (show w.heap.size ≠ w.heap.size + 1 by omega) (u64V (wd (s ||| bit c) (c / 64))))
      have HO := hid (or_bit64 s c hc)
      unfold u64V at hca HS HC2
      clear hS HA HC
      go_wp2
      go_roundw
      case rel => exact ⟨k + 1, by omega, by go_num, by rw [HO.out, HT.out]; exact HS, by rw [HO.out]; exact HC2, hbk.setCell (p := ⟨w.heap.size + 1, c / 64, none⟩) (Nat.le_succ _) _⟩
      case measure => simp [intOf]; omega
    · obtain rfl : k = n := by omega
      have hA := HA.out
      rw [List.take_of_length_le (by rw [HL.out]; exact Nat.le_refl _)] at hA
      have hg : wr.heap[w.heap.size + 1]? = some (.cells (setL (ofL l)).toArray 43) := hA
      have hz : wr.heap[w.heap.size]? = some (.cells (four (fun _ => 0)).toArray 43) := HC.out
      have hR := hid (blk_row HC.out (setL (ofL l)))
      have hB := hid (below_row hbk (Nat.le_refl w.heap.size) (setL (ofL l)).toArray)
      go_wp2_with (first
        | refine wpList_load_row rfl 43 _ rfl (w.heap.size + 1) rfl 43 _ (0, 0) _ hg Tryd.underlying43 rfl (set_info _) ?_
        | refine wpList_store_row rfl 43 _ _ rfl w.heap.size (setL (ofL l)).toArray rfl rfl 43 _ hz (set_info _) rfl (four_one _) ?_)
      exact bodyPost_ret (v := .agg (setL (ofL l)).toArray) (results_cell_row (P := Tryd.prog) (fn := Tryd.f83) rfl _ _ w.heap.size 43 _ (0, 0) _ rfl hR.out Tryd.underlying43 rfl (set_info _)) rfl ⟨rfl, hB.out⟩

set_option maxRecDepth 8000 in
theorem range_any (f t : Nat) (hf : f < 256) (ht : t < 256) (w : World) :
    Calls Tryd.prog 88 #[.int .u8 (f : Int), .int .u8 (t : Int)] w fun e w' => e = .returned (setV (rng f t)) ∧ Below w.heap.size w w' := by
  have hb := @below_alloc2 w (.cells (four (fun _ => 0)).toArray 43) (.cells (four (fun _ => 0)).toArray 43)
  have hC := (Blk.fresh w 43 (four (fun _ => 0))).alloc (.cells (four (fun _ => 0)).toArray 43)
  have hA := Blk.fresh (w.alloc (.cells (four (fun _ => 0)).toArray 43)) 43 (four (fun _ => 0))
  rw [show (w.alloc (.cells (four (fun _ => 0)).toArray 43)).heap.size = w.heap.size + 1 by simp] at hA
  have hs0 : four (fun _ => 0) = setL (0#256) := by simp [setL, four, wd_zero]
  have hA := Blk_cs hA hs0
  have HA := hid hA
  have HC := hid hC
  have HR := hid (show rng f t = rngN f (t + 1 - f) from rfl)
  clear hA hC hs0
  generalize rng f t = res at *
  go_enter Tryd.func88, Tryd.ntmps88
  go_wp2
  change Code.wp _ _ _ _ ((w.alloc (.cells (four (fun _ => 0)).toArray 43)).alloc (.cells (four (fun _ => 0)).toArray 43))
  generalize (w.alloc (.cells (four (fun _ => 0)).toArray 43)).alloc (.cells (four (fun _ => 0)).toArray 43) = w3 at *
  go_loopw [6] (fun i wr => ∃ k : Nat, k ≤ t + 1 - f ∧ i = .int .i64 ((f + k : Nat) : Int) ∧ Hid (Blk wr (w.heap.size + 1) 43 (setL (rngN f k))) ∧ Hid (Blk wr w.heap.size 43 (four (fun _ => 0))) ∧ Below w.heap.size w wr) (fun i _ => t + 1 - (intOf i).toNat)
  case atStart => exact ⟨0, by omega, rfl, HA, HC, hb⟩
  case round =>
    obtain ⟨k, hk, rfl, HA, HC, hbk⟩ := hrel
    by_cases hlt : f + k ≤ t
    · have HT := hid (show rngN f (k + 1) = rngN f k ||| bit (f + k) from rfl)
      obtain ⟨c, hcd⟩ : ∃ c, c = f + k := ⟨_, rfl⟩
      rw [← hcd] at HT hlt ⊢
      have hc : c < 256 := by omega
      generalize rngN f k = s at *
      have hca := (HA.out.at (c / 64)).trans (four_get (wd s) (c / 64) (by omega))
      have hfr := HA.out.free (c / 64)
      have hS := HA.out.put (c / 64) (u64V (wd (s ||| bit c) (c / 64)))
      rw [setL_or_bit s c hc] at hS
      have HS := hid hS
      have HC2 := hid (HC.out.other (p := ⟨w.heap.size + 1, c / 64, none⟩) (show w.heap.size ≠ w.heap.size + 1 by omega) (u64V (wd (s ||| bit c) (c / 64))))
      have HO := or_bit64 s c hc
      have HCD := hid hcd
      unfold u64V at hca HS HC2
      generalize wd (s ||| bit c) (c / 64) = y at *
      clear hS HA HC hcd
      go_wp2
      go_region
      all_goals
        go_wp2
        go_roundw
        case rel => exact ⟨k + 1, by have := HCD.out; omega, by rw [HCD.out]; go_num, by rw [HT.out]; exact HS, HC2, (hbk.setCell (p := ⟨w.heap.size + 1, c / 64, none⟩) (Nat.le_succ _) _).drew⟩
        case measure => simp [intOf]; omega
    · obtain rfl : k = t + 1 - f := by omega
      have hA := HA.out
      rw [← HR.out] at hA
      have hg : wr.heap[w.heap.size + 1]? = some (.cells (setL res).toArray 43) := hA
      have hz : wr.heap[w.heap.size]? = some (.cells (four (fun _ => 0)).toArray 43) := HC.out
      have hRR := hid (blk_row HC.out (setL res))
      have hB := hid (below_row hbk (Nat.le_refl w.heap.size) (setL res).toArray)
      go_wp2_with (first
        | refine wpList_load_row rfl 43 _ rfl (w.heap.size + 1) rfl 43 _ (0, 0) _ hg Tryd.underlying43 rfl (set_info _) ?_
        | refine wpList_store_row rfl 43 _ _ rfl w.heap.size (setL res).toArray rfl rfl 43 _ hz (set_info _) rfl (four_one _) ?_)
      exact bodyPost_ret (v := .agg (setL res).toArray) (results_cell_row (P := Tryd.prog) (fn := Tryd.f88) rfl _ _ w.heap.size 43 _ (0, 0) _ rfl hRR.out Tryd.underlying43 rfl (set_info _)) rfl ⟨rfl, hB.out⟩

/-- The last byte of the run that goes on from one. -/
def lastF (a : BS) (c : Nat) : Nat → Nat
  | 0 => c
  | n + 1 => if c < 255 ∧ has a (c + 1) = true then lastF a (c + 1) n else c
def lastN (a : BS) (c : Nat) : Nat := lastF a c 256
theorem lastF_ge (a : BS) (c n : Nat) : c ≤ lastF a c n := by
  induction n generalizing c with
  | zero => exact Nat.le_refl _
  | succ n ih =>
    unfold lastF
    split
    · exact Nat.le_trans (Nat.le_succ c) (ih (c + 1))
    · exact Nat.le_refl _
theorem lastF_le (a : BS) (c n : Nat) (hc : c ≤ 255) : lastF a c n ≤ 255 := by
  induction n generalizing c with
  | zero => exact hc
  | succ n ih =>
    unfold lastF
    split
    · rename_i h; exact ih (c + 1) (by omega)
    · exact hc
end Go.Proofs.YtoiegkejkahfgaaDoor
