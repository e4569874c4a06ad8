/- class: Each, handed a round of a loop: the walk. -/
import Derived.Test.YtbpgfphilcjmdaaDoorEach
namespace Go.Proofs.YtbpgfphilcjmdaaDoor
open Go.RowKit Go.Shelf
attribute [local go_sem] Oper.semAt_some

theorem wide_call {n f : Nat} {args : Array Value} {w : World} {R R' : Ending → World → Prop} (h : Calls Tryd.prog f args w R') (hm : ∀ e w', R' e w' → R e w') :
    Fence.wide.fn f ∧ (Fence.wide.depth.isSome = true → 1 ≤ n) ∧ CallsIn Fence.wide (n - 1) Tryd.prog f args w R :=
  ⟨trivial, fun h => by simp [Fence.wide] at h, (callsIn_wide.2 h).mono hm⟩
theorem round_call {n l f : Nat} {args : Array Value} {w : World} {R R' : Ending → World → Prop} (h : Calls Tryd.prog f args w R') (hm : ∀ e w', R' e w' → R e w') :
    (Fence.wide.inRound l).fn f ∧ ((Fence.wide.inRound l).depth.isSome = true → 1 ≤ n) ∧ CallsIn (Fence.wide.inRound l) (n - 1) Tryd.prog f args w R :=
  ⟨trivial, fun h => by simp [Fence.wide] at h, CallsIn.inRound l ((callsIn_wide.2 h).mono hm)⟩
theorem yield_nil (l : Nat) (w : World) : (binOp .eql 73 (.func (.yield l) #[] #[]) .nilFunc).run Tryd.prog w = .ok (.bool false) w := by kernel_rfl

set_option maxRecDepth 100000 in
set_option maxHeartbeats 1000000 in
/-- What Each does with a round: as long as it says yes, the bytes of the set, rising. -/
theorem each_in (n l : Nat) (a : BS) (J Jx : List Nat → World → Prop) (hJT : ∀ pre w, J pre w → TabAt w)
    (hY : ∀ (pre : List Nat) (x : Nat) (post : List Nat) (W : World), J pre W → bytesOf a = pre ++ x :: post → YieldAt Fence.wide (n - 1) Tryd.prog l #[.int .u8 (x : Int)] W fun e W' => (e = .returned (.bool true) ∧ J (pre ++ [x]) W') ∨ (e = .returned (.bool false) ∧ Jx (pre ++ [x]) W'))
    (W : World) (h0 : J [] (W.alloc (.cells (setL a).toArray 40))) (hT : TabAt W) :
    CallsIn Fence.wide n Tryd.prog 33 #[setV a, .func (.yield l) #[] #[]] W fun e W' => (∃ v, e = .returned v) ∧
      (J (bytesOf a) W' ∨ ∃ pre x post, bytesOf a = pre ++ x :: post ∧ Jx (pre ++ [x]) W') := by
  have HI := hid (fun (k : Nat) (hk : k < 4) (w : World) => run_ix a k hk w)
  have hC := (Blk.fresh W 40 (setL a)).cells4
  obtain ⟨hc0, hc1, hc2, hc3⟩ := hC
  have HY := hid hY
  have HJT := hid hJT
  have H0 := hid h0
  have hnil := yield_nil l
  clear hY h0 hT
  clear hJT
  have HV := hid (show (setL a).toArray = #[.int .u64 ((wd a 0 : Nat) : Int), .int .u64 ((wd a 1 : Nat) : Int), .int .u64 ((wd a 2 : Nat) : Int), .int .u64 ((wd a 3 : Nat) : Int)] from rfl)
  rw [HV.out] at HI
  rw [setV_eq]
  refine callsIn_of_wp Tryd.func33 rfl trivial ?_ rfl
  simp only [Tryd.ntmps33, List.size_toArray, List.length_cons, List.length_nil, Nat.reduceAdd, Nat.reduceSub, Array.replicate_succ, Array.replicate_zero, List.push_toArray, List.append_toArray, List.nil_append, List.cons_append]
  generalize (setL a).toArray = Va at *
  gi_wp2
  generalize #[Value.int .u64 ((wd a 0 : Nat) : Int), .int .u64 ((wd a 1 : Nat) : Int), .int .u64 ((wd a 2 : Nat) : Int), .int .u64 ((wd a 3 : Nat) : Int)] = Vb at *
  generalize W.alloc (.cells Va 40) = W1 at *
  clear hc0 hc1 hc2 hc3 HV
  gi_loopw [9] (fun i wr => ∃ (k : Nat) (pre : List Nat), k ≤ 4 ∧ i = .int .i64 k ∧ Hid (bytesOf a = pre ++ tailB a k) ∧ Hid (J pre wr)) (fun i _ => 4 - (intOf i).toNat)
  case atStart => exact ⟨0, [], by omega, rfl, rfl, H0⟩
  case round =>
    obtain ⟨k, pre, hk, rfl, hpre, hJ⟩ := hrel
    obtain ⟨wo, rfl⟩ : ∃ wo : World, wo = wr := ⟨_, rfl⟩
    by_cases hlt : k < 4
    · have hix := HI.out k hlt
      have hpre2 : bytesOf a = pre ++ (bitsOf (wd a k) (64 * k) ++ tailB a (k + 1)) := by rw [← tailB_step a k hlt]; exact hpre.out
      have hpre2 := hid hpre2
      have hw := wd_lt a k
      have HW := hid hw
      generalize wd a k = p0 at *
      clear hpre hw HI
      have hd4 : decide ((k : Int) < 4) = true := decide_eq_true (by omega)
      gi_wp2
      gi_loopw [5] (fun v wr => ∃ (p : Nat) (pre : List Nat), Hid (p < 18446744073709551616) ∧ v = .int .u64 (p : Int) ∧ Hid (bytesOf a = pre ++ (bitsOf p (64 * k) ++ tailB a (k + 1))) ∧ Hid (J pre wr)) (fun v _ => (intOf v).toNat)
      case atStart => exact ⟨p0, pre, HW, rfl, hpre2, hJ⟩
      case round =>
        obtain ⟨p, pre, hp, rfl, hpre, hJ⟩ := hrel
        by_cases h0 : p = 0
        · subst h0
          have hpre3 := hid (show bytesOf a = pre ++ tailB a (k + 1) by have := hpre.out; rwa [bitsOf_zero, List.nil_append] at this)
          gi_wp2
          go_roundw
          case rel => exact ⟨k + 1, pre, by omega, by go_num, hpre3, hJ⟩
          case measure => simp [intOf]; omega
        · obtain ⟨j, q, he⟩ := odd_part p h0
          have hj := low_lt q j p he hp.out
          have hst : bitsOf p (64 * k) = (64 * k + j) :: bitsOf (p &&& (p - 1)) (64 * k) := by
            have := bitsOf_step q j (64 * k) hj
            rwa [← he] at this
          have hT := HJT.out _ _ hJ.out
          have HZ := hid (tz_any hT q j p he hp.out)
          obtain ⟨x, hx⟩ : ∃ x, x = 64 * k + j := ⟨_, rfl⟩
          rw [← hx] at hst
          have hpre4 := hpre.out
          rw [hst, List.cons_append] at hpre4
          obtain ⟨fn, tmps, assign, body, hy, hR⟩ := HY.out pre x _ wr hJ.out hpre4
          have hcv : IntKind.u8.wrap ((k : Int) * 64 + (j : Int)) = (x : Int) := by
            simp [IntKind.wrap, IntKind.bits, IntKind.signed]
            omega
          have hpre5 := hid (show bytesOf a = (pre ++ [x]) ++ (bitsOf (p &&& (p - 1)) (64 * k) ++ tailB a (k + 1)) by rw [hpre4]; simp)
          have hp2 := hid (Nat.lt_of_le_of_lt (@Nat.and_le_left p (p - 1)) hp.out)
          have hlt2 := hid (show p &&& (p - 1) < p from Nat.lt_of_le_of_lt Nat.and_le_right (by omega))
          have hand : bits .and .u64 (p : Int) (IntKind.u64.wrap ((p : Int) - 1)) = ((p &&& (p - 1) : Nat) : Int) := by
            have e : IntKind.u64.wrap ((p : Int) - 1) = ((p - 1 : Nat) : Int) := by have := hp.out; rw [IntKind.wrap_u64]; omega
            rw [e]
            exact and64 _ _ hp.out (by have := hp.out; omega)
          generalize p &&& (p - 1) = p2 at *
          clear he hst hT hpre hpre4 hpre2 hx hix
          gi_wp2_with fail
          refine wide_call HZ.out ?_
          rintro e w' ⟨rfl, rfl⟩
          gi_wp2
          refine ⟨fun h => by simp [Fence.wide] at h, hR.mono ?_⟩
          rintro e W3 (⟨rfl, hJ3⟩ | ⟨rfl, hJx3⟩)
          · have HJ3 := hid hJ3
            clear hJ3
            gi_wp2
            go_roundw
            case rel => exact ⟨p2, pre ++ [x], hp2, by go_num, hpre5, HJ3⟩
            case measure => have := hlt2.out; simp [intOf]; omega
          · have HJ3 := hid hJx3
            clear hJx3
            gi_wp2
            refine bodyPost_ret (results_none rfl _ _ _) rfl ?_
            exact ⟨⟨_, rfl⟩, .inr ⟨pre, x, _, by rw [hpre5.out, List.append_assoc]; rfl, HJ3.out⟩⟩
    · obtain rfl : k = 4 := by omega
      have hpre3 := hid (show bytesOf a = pre by have := hpre.out; rwa [show tailB a 4 = [] from rfl, List.append_nil] at this)
      gi_wp2
      go_end0
      exact ⟨⟨_, rfl⟩, .inl (by rw [hpre3.out]; exact hJ.out)⟩
end Go.Proofs.YtbpgfphilcjmdaaDoor
