/- class: Each, handed a round of a loop. -/
import Derived.Test.YtoiegkejkahfgaaDoorOfR
import Derived.RangeFuncNested
import Derived.RangeFuncBound
import Derived.RangeFuncCalls
import Derived.RangeFuncLeaves
import Derived.Shelf.Abstract
import Derived.Shelf.RegionOpen
import Derived.OwnWalkIn
import Derived.TacticsInMore
import Derived.LoopNIn
import Derived.LoopIn
import Derived.Lib.TrailingZeros
namespace Go.Proofs.YtoiegkejkahfgaaDoor
set_option linter.unusedVariables false
set_option linter.unusedSimpArgs false
open Go.RowKit Go.Shelf
attribute [local go_sem] Oper.semAt_some

/-- The library's table lies as it was laid. -/
def TabAt (w : World) : Prop := ∀ i, i < 64 → w.cell? ⟨0, i, none⟩ = some (.int .u8 ((Lib.deBruijn64tab.getD i 0 : Nat) : Int))
theorem TabAt.lt {w : World} (h : TabAt w) : 0 < w.heap.size := World.block_lt_of_cell? _ _ (h 0 (by decide))
theorem TabAt.keep {w w' : World} (h : TabAt w) (hb : Below w.heap.size w w') : TabAt w' := fun i hi => (hb.cell (p := ⟨_, i, none⟩) h.lt).trans (h i hi)
theorem TabAt.below {B : Nat} {w w' : World} (h : TabAt w) (hB : 0 < B) (hb : Below B w w') : TabAt w' := fun i hi => (hb.cell (p := ⟨_, i, none⟩) hB).trans (h i hi)

theorem low_bit (q k p : Nat) (hp : p = 2 ^ k * (2 * q + 1)) (hlt : p < 2 ^ 64) : p &&& (2 ^ 64 - p) = 2 ^ k := by
  have h1 : 0 < 2 ^ k := Nat.two_pow_pos k
  have hpp : 0 < p := by rw [hp]; exact Nat.mul_pos h1 (by omega)
  obtain ⟨p', rfl⟩ : ∃ p', p = p' + 1 := ⟨p - 1, by omega⟩
  have hq : p' = 2 ^ k * (2 * q) + (2 ^ k - 1) := by
    rw [Nat.mul_add, Nat.mul_one] at hp
    omega
  apply Nat.eq_of_testBit_eq
  intro j
  rw [Nat.testBit_and, Nat.testBit_two_pow_sub_succ (by omega), Nat.testBit_two_pow]
  have hl : 2 ^ k - 1 < 2 ^ k := by omega
  rw [hp, Nat.testBit_two_pow_mul, hq, Nat.testBit_two_pow_mul_add _ hl]
  by_cases hj : j < k
  · have : ¬ k ≤ j := by omega
    have h3 : ¬ k = j := by omega
    simp [this, h3]
  · by_cases e : j = k
    · subst e
      have : j < 64 := by
        refine Decidable.byContradiction fun h64 => ?_
        have := Nat.pow_le_pow_right (show 0 < 2 by decide) (show 64 ≤ j by omega)
        have h5 : 2 ^ j ≤ 2 ^ j * (2 * q + 1) := Nat.le_mul_of_pos_right _ (by omega)
        omega
      simp [this]
    · obtain ⟨m, hm⟩ : ∃ m, j - k = m + 1 := ⟨j - k - 1, by omega⟩
      have h3 : ¬ k = j := by omega
      simp only [hj, if_false, show k ≤ j by omega, decide_true, Bool.true_and, hm, h3, decide_false]
      rw [Nat.testBit_succ, Nat.testBit_succ, show (2 * q + 1) / 2 = q by omega, show 2 * q / 2 = q by omega]
      cases q.testBit m <;> simp
theorem odd_part (p : Nat) (hp : p ≠ 0) : ∃ k q, p = 2 ^ k * (2 * q + 1) := by
  induction p using Nat.strongRecOn with
  | _ p ih =>
    rcases Nat.mod_two_eq_zero_or_one p with h | h
    · obtain ⟨k, q, e⟩ := ih (p / 2) (by omega) (by omega)
      refine ⟨k + 1, q, ?_⟩
      rw [Nat.pow_succ, Nat.mul_right_comm, ← e]
      omega
    · exact ⟨0, p / 2, by omega⟩
theorem low_lt (q k p : Nat) (hp : p = 2 ^ k * (2 * q + 1)) (hlt : p < 2 ^ 64) : k < 64 := by
  refine Decidable.byContradiction fun h64 => ?_
  have := Nat.pow_le_pow_right (show 0 < 2 by decide) (show 64 ≤ k by omega)
  have h5 : 2 ^ k ≤ 2 ^ k * (2 * q + 1) := Nat.le_mul_of_pos_right _ (by omega)
  omega
theorem neg_and (q k p : Nat) (hp : p = 2 ^ k * (2 * q + 1)) (hlt : p < 18446744073709551616) : bits .and .u64 (p : Int) (IntKind.u64.wrap (-(p : Int))) = ((2 ^ k : Nat) : Int) := by
  have hpp : 0 < p := by rw [hp]; exact Nat.mul_pos (Nat.two_pow_pos k) (by omega)
  have e : IntKind.u64.wrap (-(p : Int)) = ((18446744073709551616 - p : Nat) : Int) := by rw [IntKind.wrap_u64]; omega
  rw [e, and64 _ _ hlt (by omega)]
  exact congrArg _ (low_bit q k p hp hlt)
theorem mul_sh (y : Nat) : IntKind.u64.wrap (y : Int) / 288230376151711744 = ((y % 18446744073709551616 / 288230376151711744 : Nat) : Int) := by
  rw [IntKind.wrap_u64]
  omega
theorem tz_ix (k : Nat) (hk : k < 64) : ∃ j : Nat, j < 64 ∧ IntKind.u64.wrap (((2 ^ k : Nat) : Int) * 285870213051353865) / 288230376151711744 = (j : Int) ∧ Lib.deBruijn64tab.getD j 0 = k := by
  obtain ⟨h1, h2⟩ := Lib.deBruijn64_at k hk
  have hm := mul_sh (2 ^ k * 285870213051353865)
  rw [Int.natCast_mul] at hm
  exact ⟨_, h1, hm, h2⟩
set_option maxRecDepth 8000 in
theorem tz_any {w : World} (hT : TabAt w) (q k p : Nat) (hp : p = 2 ^ k * (2 * q + 1)) (hlt : p < 18446744073709551616) :
    Calls Tryd.prog 45 #[.int .u64 (p : Int)] w fun e w' => e = .returned (.int .i64 (k : Int)) ∧ w = w' := by
  have hk := low_lt q k p hp hlt
  have hpp : 0 < p := by rw [hp]; exact Nat.mul_pos (Nat.two_pow_pos k) (by omega)
  have hn := neg_and q k p hp hlt
  obtain ⟨j, h1, hm, h2⟩ := tz_ix k hk
  have hc := hT j h1
  rw [h2] at hc
  generalize (2 ^ k : Nat) = x at hm hn
  clear h2 hp hT
  go_enter Tryd.func45, Tryd.ntmps45
  go_wp2
  go_ret
  exact ⟨rfl, rfl⟩

/-- The bytes from a word on. -/
def tailB (a : BS) : Nat → List Nat
  | 0 => bytesOf a
  | 1 => bitsOf (wd a 1) 64 ++ (bitsOf (wd a 2) 128 ++ bitsOf (wd a 3) 192)
  | 2 => bitsOf (wd a 2) 128 ++ bitsOf (wd a 3) 192
  | 3 => bitsOf (wd a 3) 192
  | _ => []
theorem tailB_step (a : BS) (i : Nat) (hi : i < 4) : tailB a i = bitsOf (wd a i) (64 * i) ++ tailB a (i + 1) := by
  have : i = 0 ∨ i = 1 ∨ i = 2 ∨ i = 3 := by omega
  rcases this with rfl | rfl | rfl | rfl
  · exact bytesOf_words a
  · rfl
  · rfl
  · simp [tailB]

end Go.Proofs.YtoiegkejkahfgaaDoor

/- class: Each, handed a round of a loop: the walk. -/
namespace Go.Proofs.YtoiegkejkahfgaaDoor
set_option linter.unusedVariables false
set_option linter.unusedSimpArgs false
open Go.RowKit Go.Shelf
attribute [local go_sem] Oper.semAt_some

theorem run_ix (a : BS) (k : Nat) (hk : k < 4) (w : World) : (Instr.index 43 (.agg (setL a).toArray) (.int .i64 (k : Int))).run Tryd.prog w = .ok (.int .u64 ((wd a k : Nat) : Int)) w := by
  have hs : (sizeOf 22).run Tryd.prog w = .ok 1 w := by kernel_rfl
  have : k = 0 ∨ k = 1 ∨ k = 2 ∨ k = 3 := by omega
  rcases this with rfl | rfl | rfl | rfl <;> simp [Instr.index, run_underlying Tryd.underlying43, asIntOf, hs, part, setL, four, u64V]

theorem wide_call {n f : Nat} {args : Array Value} {w : World} {R R' : Ending → World → Prop} (h : Calls Tryd.prog f args w R') (hm : ∀ e w', R' e w' → R e w') :
    Fence.wide.fn f ∧ (Fence.wide.depth.isSome = true → 1 ≤ n) ∧ CallsIn Fence.wide (n - 1) Tryd.prog f args w R :=
  ⟨trivial, fun h => by simp [Fence.wide] at h, (callsIn_wide.2 h).mono hm⟩
theorem round_call {n l f : Nat} {args : Array Value} {w : World} {R R' : Ending → World → Prop} (h : Calls Tryd.prog f args w R') (hm : ∀ e w', R' e w' → R e w') :
    (Fence.wide.inRound l).fn f ∧ ((Fence.wide.inRound l).depth.isSome = true → 1 ≤ n) ∧ CallsIn (Fence.wide.inRound l) (n - 1) Tryd.prog f args w R :=
  ⟨trivial, fun h => by simp [Fence.wide] at h, CallsIn.inRound l ((callsIn_wide.2 h).mono hm)⟩
theorem yield_nil (l : Nat) (w : World) : (binOp .eql 44 (.func (.yield l) #[] #[]) .nilFunc).run Tryd.prog w = .ok (.bool false) w := by kernel_rfl

set_option maxRecDepth 100000 in
set_option maxHeartbeats 1000000 in
/-- What Each does with a round: as long as it says yes, the bytes of the set, rising. -/
theorem each_in (n l : Nat) (a : BS) (J Jx : List Nat → World → Prop) (hJT : ∀ pre w, J pre w → TabAt w)
    (hY : ∀ (pre : List Nat) (x : Nat) (post : List Nat) (W : World), J pre W → bytesOf a = pre ++ x :: post → YieldAt Fence.wide (n - 1) Tryd.prog l #[.int .u8 (x : Int)] W fun e W' => (e = .returned (.bool true) ∧ J (pre ++ [x]) W') ∨ (e = .returned (.bool false) ∧ Jx (pre ++ [x]) W'))
    (W : World) (h0 : J [] (W.alloc (.cells (setL a).toArray 43))) (hT : TabAt W) :
    CallsIn Fence.wide n Tryd.prog 30 #[setV a, .func (.yield l) #[] #[]] W fun e W' => (∃ v, e = .returned v) ∧
      (J (bytesOf a) W' ∨ ∃ pre x post, bytesOf a = pre ++ x :: post ∧ Jx (pre ++ [x]) W') := by
  have HI := hid (fun (k : Nat) (hk : k < 4) (w : World) => run_ix a k hk w)
  have hC := (Blk.fresh W 43 (setL a)).cells4
  obtain ⟨hc0, hc1, hc2, hc3⟩ := hC
  have HY := hid hY
  have HJT := hid hJT
  have H0 := hid h0
  have hnil := yield_nil l
  clear hY h0 hT
  clear hJT
  have HV := hid (show (setL a).toArray = #[.int .u64 ((wd a 0 : Nat) : Int), .int .u64 ((wd a 1 : Nat) : Int), .int .u64 ((wd a 2 : Nat) : Int), .int .u64 ((wd a 3 : Nat) : Int)] from rfl)
  rw [HV.out] at HI
  rw [setV_eq]
  refine callsIn_of_wp Tryd.func30 rfl trivial ?_ rfl
  simp only [Tryd.ntmps30, List.size_toArray, List.length_cons, List.length_nil, Nat.reduceAdd, Nat.reduceSub, Array.replicate_succ, Array.replicate_zero, List.push_toArray, List.append_toArray, List.nil_append, List.cons_append]
  generalize (setL a).toArray = Va at *
  gi_wp2
  generalize #[Value.int .u64 ((wd a 0 : Nat) : Int), .int .u64 ((wd a 1 : Nat) : Int), .int .u64 ((wd a 2 : Nat) : Int), .int .u64 ((wd a 3 : Nat) : Int)] = Vb at *
  generalize W.alloc (.cells Va 43) = W1 at *
  clear hc0 hc1 hc2 hc3 HV
  gi_loopw [9] (fun i wr => ∃ (k : Nat) (pre : List Nat), k ≤ 4 ∧ i = .int .i64 k ∧ Hid (bytesOf a = pre ++ tailB a k) ∧ Hid (J pre wr)) (fun i _ => 4 - (intOf i).toNat)
  case atStart => exact ⟨0, [], by omega, rfl, rfl, H0⟩
  case round =>
    obtain ⟨k, pre, hk, rfl, hpre, hJ⟩ := hrel
    obtain ⟨wo, rfl⟩ : ∃ wo : World, wo = wr := ⟨_, rfl⟩
    by_cases hlt : k < 4
    · have hix := HI.out k hlt
      have hpre2 : bytesOf a = pre ++ (bitsOf (wd a k) (64 * k) ++ tailB a (k + 1)) := by rw [← tailB_step a k hlt]; exact hpre.out
      have hpre2 := hid hpre2
      have hw := wd_lt a k
      have HW := hid hw
      generalize wd a k = p0 at *
      clear hpre hw HI
      have hd4 : decide ((k : Int) < 4) = true := decide_eq_true (by omega)
      gi_wp2
      gi_loopw [5] (fun v wr => ∃ (p : Nat) (pre : List Nat), Hid (p < 18446744073709551616) ∧ v = .int .u64 (p : Int) ∧ Hid (bytesOf a = pre ++ (bitsOf p (64 * k) ++ tailB a (k + 1))) ∧ Hid (J pre wr)) (fun v _ => (intOf v).toNat)
      case atStart => exact ⟨p0, pre, HW, rfl, hpre2, hJ⟩
      case round =>
        obtain ⟨p, pre, hp, rfl, hpre, hJ⟩ := hrel
        by_cases h0 : p = 0
        · subst h0
          have hpre3 := hid (show bytesOf a = pre ++ tailB a (k + 1) by have := hpre.out; rwa [bitsOf_zero, List.nil_append] at this)
          gi_wp2
          go_roundw
          case rel => exact ⟨k + 1, pre, by omega, by go_num, hpre3, hJ⟩
          case measure => simp [intOf]; omega
        · obtain ⟨j, q, he⟩ := odd_part p h0
          have hj := low_lt q j p he hp.out
          have hst : bitsOf p (64 * k) = (64 * k + j) :: bitsOf (p &&& (p - 1)) (64 * k) := by
            have := bitsOf_step q j (64 * k) hj
            rwa [← he] at this
          have hT := HJT.out _ _ hJ.out
          have HZ := hid (tz_any hT q j p he hp.out)
          obtain ⟨x, hx⟩ : ∃ x, x = 64 * k + j := ⟨_, rfl⟩
          rw [← hx] at hst
          have hpre4 := hpre.out
          rw [hst, List.cons_append] at hpre4
          obtain ⟨fn, tmps, assign, body, hy, hR⟩ := HY.out pre x _ wr hJ.out hpre4
          have hcv : IntKind.u8.wrap ((k : Int) * 64 + (j : Int)) = (x : Int) := by
            simp [IntKind.wrap, IntKind.bits, IntKind.signed]
            omega
          have hpre5 := hid (show bytesOf a = (pre ++ [x]) ++ (bitsOf (p &&& (p - 1)) (64 * k) ++ tailB a (k + 1)) by rw [hpre4]; simp)
          have hp2 := hid (Nat.lt_of_le_of_lt (@Nat.and_le_left p (p - 1)) hp.out)
          have hlt2 := hid (show p &&& (p - 1) < p from Nat.lt_of_le_of_lt Nat.and_le_right (by omega))
          have hand : bits .and .u64 (p : Int) (IntKind.u64.wrap ((p : Int) - 1)) = ((p &&& (p - 1) : Nat) : Int) := by
            have e : IntKind.u64.wrap ((p : Int) - 1) = ((p - 1 : Nat) : Int) := by have := hp.out; rw [IntKind.wrap_u64]; omega
            rw [e]
            exact and64 _ _ hp.out (by have := hp.out; omega)
          generalize p &&& (p - 1) = p2 at *
          clear he hst hT hpre hpre4 hpre2 hx hix
          gi_wp2_with fail
          refine wide_call HZ.out ?_
          rintro e w' ⟨rfl, rfl⟩
          gi_wp2
          refine ⟨fun h => by simp [Fence.wide] at h, hR.mono ?_⟩
          rintro e W3 (⟨rfl, hJ3⟩ | ⟨rfl, hJx3⟩)
          · have HJ3 := hid hJ3
            clear hJ3
            gi_wp2
            go_roundw
            case rel => exact ⟨p2, pre ++ [x], hp2, by go_num, hpre5, HJ3⟩
            case measure => have := hlt2.out; simp [intOf]; omega
          · have HJ3 := hid hJx3
            clear hJx3
            gi_wp2
            refine bodyPost_ret (results_none rfl _ _ _) rfl ?_
            exact ⟨⟨_, rfl⟩, .inr ⟨pre, x, _, by rw [hpre5.out, List.append_assoc]; rfl, HJ3.out⟩⟩
    · obtain rfl : k = 4 := by omega
      have hpre3 := hid (show bytesOf a = pre by have := hpre.out; rwa [show tailB a 4 = [] from rfl, List.append_nil] at this)
      gi_wp2
      go_end0
      exact ⟨⟨_, rfl⟩, .inl (by rw [hpre3.out]; exact hJ.out)⟩
end Go.Proofs.YtoiegkejkahfgaaDoor

/- class: a loop over a set's Each: what its rounds owe. -/
namespace Go.Proofs.YtoiegkejkahfgaaDoor
set_option linter.unusedVariables false
set_option linter.unusedSimpArgs false
set_option linter.unusedSimpArgs false
open Go.RowKit Go.Shelf

/-- The record of a loop. -/
def lrec (fn : FuncId) (tmps : Array Value) (ps : Array Tmp) (assign body : Code) (D : Nat) (st : LoopState) (pe : Option Code) : Loop :=
  { state := st, pending := pe, fn := fn, tmps := tmps, params := ps, assign := assign, body := body, defers := D }

/-- A condition that new blocks, and the turn of one that holds no cells, don't touch. -/
structure Own2 (B : Nat) (I : List Nat → World → Prop) : Prop where
  alloc : ∀ {s W} (o : Obj), I s W → I s (W.alloc o)
  putObj : ∀ {s W k o} (o' : Obj), I s W → B ≤ k → W.heap[k]? = some o → o.isCells = false → I s (W.putObj k o')
theorem own2_of {B : Nat} {I : List Nat → World → Prop} (h : OwnFrom B I) : Own2 B I := ⟨fun o hi => h.alloc o hi, fun o' hi hk ho hc => h.putObj o' hi hk ho hc⟩
theorem Own2.and {B : Nat} {I I' : List Nat → World → Prop} (h : Own2 B I) (h' : Own2 B I') : Own2 B (fun s W => I s W ∧ I' s W) :=
  ⟨fun o hi => ⟨h.alloc o hi.1, h'.alloc o hi.2⟩, fun o' hi hk ho hc => ⟨h.putObj o' hi.1 hk ho hc, h'.putObj o' hi.2 hk ho hc⟩⟩

theorem range_each2 {n : Nat} {g : Operand} {ps : Array Tmp} {assign body : Code} {Q : Exit → Act → World → Prop} {t : Act} {w : World} (a : BS)
    (hg : t.eval g = .func (.func 30) #[setV a] #[]) (hps : ps.size = 1)
    (I : List Nat → World → Prop) (Ix : Code → List Nat → World → Prop) (hI : Own2 w.heap.size I) (hIx : ∀ c, Own2 w.heap.size (Ix c)) (h0 : I [] w) (hIT : ∀ pre W, I pre W → TabAt W) (t₁ : Nat → Act)
    (hassign : ∀ (l x : Nat) (W : World) (K : Act → World → Prop), K (t₁ x) W →
      assign.wpIn (Fence.wide.inRound l) (n - 1 - 1) Tryd.prog (Exit.then K (fun _ _ _ => False)) { tmps := (ps.zip #[Value.int .u8 (x : Int)]).foldl (fun u (p, v) => u.setIfInBounds p v) t.tmps, defers := [] } W)
    (hbody : ∀ (l : Nat) (pre : List Nat) (x : Nat) (post : List Nat) (W : World), I pre W → bytesOf a = pre ++ x :: post →
      body.wpIn (Fence.wide.inRound l) (n - 1 - 1) Tryd.prog (ownPostG w.heap.size (fun _ _ => True) I Ix (pre ++ [x]) W) (t₁ x) W)
    (hdone : ∀ (D : Nat) (W : World), w.heap.size ≤ D → I (bytesOf a) W → W.heap[D]? = some (.deferred (some [])) → Q .normal { t with defers := { target := .collected D, args := #[] } :: t.defers } W)
    (hstop : ∀ (D : Nat) (c : Code) (pre : List Nat) (x : Nat) (post : List Nat) (W : World), w.heap.size ≤ D → bytesOf a = pre ++ x :: post → Ix c (pre ++ [x]) W → W.heap[D]? = some (.deferred (some [])) →
      c.wpIn Fence.wide n Tryd.prog Q { t with defers := { target := .collected D, args := #[] } :: t.defers } W) :
    (Code.rangeFunc g ps assign body).wpIn Fence.wide n Tryd.prog Q t w := by
  refine wpIn_rangeFunc fun fn _ => ?_
  obtain ⟨B, hB⟩ : ∃ B, B = w.heap.size := ⟨_, rfl⟩
  obtain ⟨W1, hW1⟩ : ∃ W1, W1 = (w.alloc (.deferred (some []))).alloc (.loop (lrec fn t.tmps ps assign body B .ready none)) := ⟨_, rfl⟩
  have hs1 : W1.heap.size = B + 2 := by rw [hW1, hB]; simp
  have hL1 : W1.heap[B + 1]? = some (.loop (lrec fn t.tmps ps assign body B .ready none)) := by
    have := World.alloc_heap_new (w.alloc (.deferred (some []))) (.loop (lrec fn t.tmps ps assign body B .ready none))
    rw [World.size_alloc] at this
    rw [hW1, hB]
    rw [hB] at this
    exact this
  have hD1 : W1.heap[B]? = some (.deferred (some [])) := by
    rw [hW1, hB]
    exact (Below.heap_alloc _ _ _ (by simp)).trans (World.alloc_heap_new w _)
  have hI1 : I [] W1 := by rw [hW1]; exact hI.alloc _ (hI.alloc _ h0)
  -- whoever turns no block but its own cells keeps the record
  have keep : ∀ (W W' : World) (k : Nat) (o : Obj), KeepsFrom w.heap.size W W' → B ≤ k → W.heap[k]? = some o → o.isCells = false → W'.heap[k]? = some o := fun W W' k o h hk ho hc => h.same k o (by omega) ho hc
  refine ⟨B + 1, [{ target := .collected B, args := #[] }], W1, { target := .fn (.func 30) #[], args := #[setV a, .func (.yield (B + 1)) #[] #[]] }, W1, 30,
    #[setV a, .func (.yield (B + 1)) #[] #[]], W1, ?_, ?_, ?_, ?_, ?_, ?_⟩
  · rw [hW1, hB]; exact run_enterLoop_outer _ _ _ _ _
  · simp only [resolve, hg]
    simp [go_sem]
  · intro f' _; trivial
  · have eg := enters_of (P := Tryd.prog) Tryd.func30 (by kernel_rfl) rfl
    simp [invoke, go_sem, eg]
  · intro h; simp [Fence.wide] at h
  · refine (each_in (n - 1) (B + 1) a
      (fun pre W => I pre W ∧ W.heap[B + 1]? = some (.loop (lrec fn t.tmps ps assign body B .ready none)) ∧ W.heap[B]? = some (.deferred (some [])))
      (fun pre W => ∃ c, Ix c pre W ∧ W.heap[B + 1]? = some (.loop (lrec fn t.tmps ps assign body B .done (some c))) ∧ W.heap[B]? = some (.deferred (some [])))
      (fun pre W h => hIT pre W h.1) ?_ W1 ?_ (hIT _ _ hI1)).mono ?_
    · rintro pre x post W ⟨hi, hl, hd⟩ hpre
      have hlt : B + 1 < W.heap.size := (Array.getElem?_eq_some_iff.1 hl).1
      have hy := run_yield (P := Tryd.prog) (args := #[Value.int .u8 (x : Int)]) hl (by rw [lrec, hps]; rfl)
      refine ⟨fn, _, assign, body, hy, roundIn_of_wpIn trivial (hassign _ x W _ ⟨_, run_beginRound hl rfl, ?_⟩)⟩
      have hl2 : (W.putObj (B + 1) (.loop (lrec fn t.tmps ps assign body B .busy none))).heap[B + 1]? = some (.loop (lrec fn t.tmps ps assign body B .busy none)) := World.putObj_heap_same hlt
      have hd2 : (W.putObj (B + 1) (.loop (lrec fn t.tmps ps assign body B .busy none))).heap[B]? = some (.deferred (some [])) := (World.putObj_heap_other (by omega)).trans hd
      refine wpIn_mono (hbody _ pre x post _ (hI.putObj _ hi (by omega) hl rfl) hpre) ?_
      have fin : ∀ (jump : Option Code) (W3 : World), KeepsFrom w.heap.size (W.putObj (B + 1) (.loop (lrec fn t.tmps ps assign body B .busy none))) W3 →
          W3.heap[B + 1]? = some (.loop (lrec fn t.tmps ps assign body B .busy none)) ∧
          (Instr.endRound (B + 1) jump).run Tryd.prog W3 = .ok (.bool jump.isNone) (W3.putObj (B + 1) (.loop (lrec fn t.tmps ps assign body B (if jump.isNone then .ready else .done) jump))) ∧
          (W3.putObj (B + 1) (.loop (lrec fn t.tmps ps assign body B (if jump.isNone then .ready else .done) jump))).heap[B + 1]? = some (.loop (lrec fn t.tmps ps assign body B (if jump.isNone then .ready else .done) jump)) ∧
          (W3.putObj (B + 1) (.loop (lrec fn t.tmps ps assign body B (if jump.isNone then .ready else .done) jump))).heap[B]? = some (.deferred (some [])) := by
        intro jump W3 hk
        have h3 := keep _ _ _ _ hk (by omega) hl2 rfl
        exact ⟨h3, run_endRound jump h3, World.putObj_heap_same (Array.getElem?_eq_some_iff.1 h3).1, (World.putObj_heap_other (by omega)).trans (keep _ _ _ _ hk (Nat.le_refl _) hd2 rfl)⟩
      intro e t3 W3 hp
      cases e with
      | normal =>
        obtain ⟨hk3, _, hi3⟩ := hp
        obtain ⟨h3, hr, hl4, hd4⟩ := fin none W3 hk3
        exact ⟨_, _, hr, .inl ⟨rfl, hI.putObj _ hi3 (by omega) h3 rfl, hl4, hd4⟩⟩
      | ret =>
        obtain ⟨hk3, hi3⟩ := hp
        obtain ⟨h3, hr, hl4, hd4⟩ := fin (some .ret) W3 hk3
        exact ⟨_, _, hr, .inr ⟨rfl, .ret, (hIx _).putObj _ hi3 (by omega) h3 rfl, hl4, hd4⟩⟩
      | exit id =>
        obtain ⟨hk3, hi3⟩ := hp
        obtain ⟨h3, hr, hl4, hd4⟩ := fin (some (.exit id)) W3 hk3
        exact ⟨_, _, hr, .inr ⟨rfl, .exit id, (hIx _).putObj _ hi3 (by omega) h3 rfl, hl4, hd4⟩⟩
      | goto c =>
        obtain ⟨hk3, hi3⟩ := hp
        obtain ⟨h3, hr, hl4, hd4⟩ := fin (some (.goto c)) W3 hk3
        exact ⟨_, _, hr, .inr ⟨rfl, .goto c, (hIx _).putObj _ hi3 (by omega) h3 rfl, hl4, hd4⟩⟩
      | panic ch => exact hp.elim
      | outgrown => exact hp.elim
    · refine ⟨hI.alloc _ hI1, (Below.heap_alloc _ _ _ (by omega)).trans hL1, (Below.heap_alloc _ _ _ (by omega)).trans hD1⟩
    · rintro e W2 ⟨⟨v, rfl⟩, ⟨hi, hl, hd⟩ | ⟨pre, x, post, hpre, c, hi, hl, hd⟩⟩
      · exact ⟨none, _, run_endLoop hl (by simp [lrec]), hdone B _ (by omega) (hI.putObj _ hi (by omega) hl rfl) ((World.putObj_heap_other (by omega)).trans hd)⟩
      · exact ⟨some c, _, run_endLoop hl (by simp [lrec]), hstop B c pre x post _ (by omega) hpre ((hIx c).putObj _ hi (by omega) hl rfl) ((World.putObj_heap_other (by omega)).trans hd)⟩
theorem range_each {n : Nat} {g : Operand} {ps : Array Tmp} {assign body : Code} {Q : Exit → Act → World → Prop} {t : Act} {w : World} (a : BS)
    (hg : t.eval g = .func (.func 30) #[setV a] #[]) (hps : ps.size = 1)
    (I : List Nat → World → Prop) (Ix : Code → List Nat → World → Prop) (hI : OwnFrom w.heap.size I) (hIx : ∀ c, OwnFrom w.heap.size (Ix c)) (h0 : I [] w) (hIT : ∀ pre W, I pre W → TabAt W) (t₁ : Nat → Act)
    (hassign : ∀ (l x : Nat) (W : World) (K : Act → World → Prop), K (t₁ x) W →
      assign.wpIn (Fence.wide.inRound l) (n - 1 - 1) Tryd.prog (Exit.then K (fun _ _ _ => False)) { tmps := (ps.zip #[Value.int .u8 (x : Int)]).foldl (fun u (p, v) => u.setIfInBounds p v) t.tmps, defers := [] } W)
    (hbody : ∀ (l : Nat) (pre : List Nat) (x : Nat) (post : List Nat) (W : World), I pre W → bytesOf a = pre ++ x :: post →
      body.wpIn (Fence.wide.inRound l) (n - 1 - 1) Tryd.prog (ownPostG w.heap.size (fun _ _ => True) I Ix (pre ++ [x]) W) (t₁ x) W)
    (hdone : ∀ (D : Nat) (W : World), w.heap.size ≤ D → I (bytesOf a) W → W.heap[D]? = some (.deferred (some [])) → Q .normal { t with defers := { target := .collected D, args := #[] } :: t.defers } W)
    (hstop : ∀ (D : Nat) (c : Code) (pre : List Nat) (x : Nat) (post : List Nat) (W : World), w.heap.size ≤ D → bytesOf a = pre ++ x :: post → Ix c (pre ++ [x]) W → W.heap[D]? = some (.deferred (some [])) →
      c.wpIn Fence.wide n Tryd.prog Q { t with defers := { target := .collected D, args := #[] } :: t.defers } W) :
    (Code.rangeFunc g ps assign body).wpIn Fence.wide n Tryd.prog Q t w :=
  range_each2 a hg hps I Ix (own2_of hI) (fun c => own2_of (hIx c)) h0 hIT t₁ hassign hbody hdone hstop
end Go.Proofs.YtoiegkejkahfgaaDoor
