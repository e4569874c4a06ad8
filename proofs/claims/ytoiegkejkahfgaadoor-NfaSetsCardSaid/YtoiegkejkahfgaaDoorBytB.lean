/- class: First, byLeast. -/
import Derived.Test.YtoiegkejkahfgaaDoorRange
import Derived.Test.YtoiegkejkahfgaaDoorText
import Derived.RangeFuncBox
import Derived.Maps.AppendAt
import Derived.Laws.MakeOwn
import Derived.Test.YtoiegkejkahfgaaDoorOfR
namespace Go.Proofs.YtoiegkejkahfgaaDoor
set_option linter.unusedVariables false
set_option linter.unusedSimpArgs false
open Go.RowKit Go.Shelf
attribute [local go_sem] Oper.semAt_some

theorem wide_call2 {n f : Nat} {args : Array Value} {w : World} {R R' : Ending → World → Prop} (h : Calls Tryd.prog f args w R') (hm : ∀ e w', R' e w' → R e w') :
    Fence.wide.fn f ∧ CallsIn Fence.wide n Tryd.prog f args w R := ⟨trivial, (callsIn_wide.2 h).mono hm⟩
theorem round_call2 {n l f : Nat} {args : Array Value} {w : World} {R R' : Ending → World → Prop} (h : Calls Tryd.prog f args w R') (hm : ∀ e w', R' e w' → R e w') :
    (Fence.wide.inRound l).fn f ∧ CallsIn (Fence.wide.inRound l) n Tryd.prog f args w R := ⟨trivial, CallsIn.inRound l ((callsIn_wide.2 h).mono hm)⟩
theorem round_call3 {n l f : Nat} {args : Array Value} {w : World} {R R' : Ending → World → Prop} (h : Calls Tryd.prog f args w R') (hm : ∀ e w', R' e w' → R e w') :
    Fence.wide.fn f ∧ CallsIn (Fence.wide.inRound l) n Tryd.prog f args w R := ⟨trivial, CallsIn.inRound l ((callsIn_wide.2 h).mono hm)⟩
theorem own_blk {B g : Nat} {t : TypeId} (hg : g < B) (cs : List Nat → List Value) : OwnFrom B (fun pre W => Blk W g t (cs pre)) := fun s W W' row hs hgr hr =>
  hs.grown hgr (fun e => by have := (hr g e.symm).1; omega)
theorem own_tab {B : Nat} (hB : 0 < B) : OwnFrom B (fun (_ : List Nat) W => TabAt W) := fun s W W' row hs hgr hr i hi =>
  hgr.cell (hs i hi) (fun e => by have := (hr _ e.symm).1; simp only at this; omega)
theorem own_pure {B : Nat} {p : List Nat → Prop} : OwnFrom B (fun pre _ => p pre) := fun _ _ _ _ h _ _ => h

theorem own2_drawn {B : Nat} (n : Nat) : Own2 B (fun _ W => n ≤ W.drawn) := ⟨fun _ h => h, fun _ h _ _ _ => h⟩
theorem Blk.putObj {w : World} {g : Nat} {t : TypeId} {cs : List Value} (h : Blk w g t cs) {D : Nat} (o : Obj) (hne : g ≠ D) : Blk (w.putObj D o) g t cs := (World.putObj_heap_other hne).trans h
theorem below_putD {w W : World} (h : Below w.heap.size w W) {D : Nat} (hD : w.heap.size ≤ D) {ds : List Deferred} (hk : W.heap[D]? = some (.deferred (some ds))) (o : Obj) : Below w.heap.size w (W.putObj D o) :=
  h.trans (belowK_b (w := w) (Nat.le_refl _) W D _ o hD hk rfl rfl)
set_option maxRecDepth 100000 in
set_option maxHeartbeats 1000000 in
theorem first_dr (a : BS) {w : World} (hT : TabAt w) :
    Calls Tryd.prog 43 #[setV a] w fun e w' => e = .returned (.tuple #[.int .u8 ((firstN a : Nat) : Int), .bool (!decide (a = 0#256))]) ∧ Below w.heap.size w w' ∧ w.drawn ≤ w'.drawn := by
  refine (callsIn_wide (n := 3)).1 ?_
  have hA := Blk.fresh w 43 (setL a)
  rw [show setV a = .agg (setL a).toArray from rfl]
  refine callsIn_of_wp_marks Tryd.func43 rfl trivial ?_ rfl
  simp only [Tryd.ntmps43, List.size_toArray, List.length_cons, List.length_nil, Nat.reduceAdd, Nat.reduceSub, Array.replicate_succ, Array.replicate_zero, List.push_toArray, List.append_toArray, List.nil_append, List.cons_append]
  obtain ⟨hc0, hc1, hc2, hc3⟩ := ((hA.alloc (.cells #[.int .u8 0] 5)).alloc (.cells #[.bool false] 4)).cells4
  generalize hVa : (setL a).toArray = Va at *
  have HVa := hid hVa
  clear hVa
  gi_wp2
  have hsv : setV a = .agg #[.int .u64 ((wd a 0 : Nat) : Int), .int .u64 ((wd a 1 : Nat) : Int), .int .u64 ((wd a 2 : Nat) : Int), .int .u64 ((wd a 3 : Nat) : Int)] := rfl
  rw [← hsv]
  have hX : Blk (((w.alloc (.cells Va 43)).alloc (.cells #[.int .u8 0] 5)).alloc (.cells #[.bool false] 4)) (w.heap.size + 1) 5 [.int .u8 0] := by
    have := (Blk.fresh (w.alloc (.cells Va 43)) 5 [.int .u8 0]).alloc (.cells #[.bool false] 4)
    rwa [World.size_alloc] at this
  have hY : Blk (((w.alloc (.cells Va 43)).alloc (.cells #[.int .u8 0] 5)).alloc (.cells #[.bool false] 4)) (w.heap.size + 1 + 1) 4 [.bool false] := by
    have := Blk.fresh ((w.alloc (.cells Va 43)).alloc (.cells #[.int .u8 0] 5)) 4 [.bool false]
    rwa [World.size_alloc, World.size_alloc] at this
  have hB := @below_alloc3 w (.cells Va 43) (.cells #[.int .u8 0] 5) (.cells #[.bool false] 4)
  have hsz : (((w.alloc (.cells Va 43)).alloc (.cells #[.int .u8 0] 5)).alloc (.cells #[.bool false] 4)).heap.size = w.heap.size + 3 := by simp
  have hdr0 : w.drawn ≤ (((w.alloc (.cells Va 43)).alloc (.cells #[.int .u8 0] 5)).alloc (.cells #[.bool false] 4)).drawn := Nat.le_refl _
  generalize ((w.alloc (.cells Va 43)).alloc (.cells #[.int .u8 0] 5)).alloc (.cells #[.bool false] 4) = w3 at *
  have hT3 := hT.keep hB
  have hT0 := hT.lt
  clear hc0 hc1 hc2 hc3 hA
  have HSV := hid hsv
  clear hsv
  generalize setV a = sv at *
  have hdr : w.drawn ≤ w3.drawn := hdr0
  refine range_each2 a (by rw [HSV.out]; rfl) rfl
    (fun pre W => pre = [] ∧ Blk W (w.heap.size + 1) 5 [.int .u8 0] ∧ Blk W (w.heap.size + 1 + 1) 4 [.bool false] ∧ TabAt W ∧ Below w.heap.size w W ∧ w.drawn ≤ W.drawn)
    (fun c pre W => c = .ret ∧ ∃ x : Nat, pre = [x] ∧ Blk W (w.heap.size + 1) 5 [.int .u8 (x : Int)] ∧ Blk W (w.heap.size + 1 + 1) 4 [.bool true] ∧ Below w.heap.size w W ∧ w.drawn ≤ W.drawn)
    (Own2.and (own2_of own_pure) (Own2.and (own2_of (own_blk (by omega) _)) (Own2.and (own2_of (own_blk (by omega) _)) (Own2.and (own2_of (own_tab (by omega))) (Own2.and (own2_of (ownFrom_below (Nat.le_refl _) (by omega))) (own2_drawn _))))))
    (fun c => ⟨fun o ⟨hc, x, hx, h1, h2, h3, h4⟩ => ⟨hc, x, hx, h1.alloc o, h2.alloc o, h3.alloc h3.size o, h4⟩,
      fun o' ⟨hc, x, hx, h1, h2, h3, h4⟩ hk ho hcl => ⟨hc, x, hx, h1.putObj o' (by omega), h2.putObj o' (by omega), (own2_of (ownFrom_below (β := List Nat) (Nat.le_refl _) (by omega))).putObj (s := []) o' h3 hk ho hcl, h4⟩⟩)
    ⟨rfl, hX, hY, hT3, hB, hdr⟩ (fun _ _ h => h.2.2.2.1)
    (fun x => { tmps := #[Value.agg Va, Value.pointer (some { block := w.heap.size, off := 0 }), Value.pointer (some { block := w.heap.size + 1, off := 0 }), Value.pointer (some { block := w.heap.size + 1 + 1, off := 0 }), .int .u8 (x : Int), sv, Value.func (Fn.func 30) #[sv] #[], .int .u8 (x : Int), undef], defers := [] }) ?assign ?body ?done ?stop
  case assign =>
    intro l x W K hK
    gi_wp2
    exact hK
  case body =>
    rintro l pre x post W ⟨rfl, h1, h2, h3, h4, h5⟩ hpre
    have hx0 := h1.at 0
    have hx1 := h1.free 0
    have hy0 := h2.at 0
    have hy1 := h2.free 0
    have hS1 := hid ((h1.put 0 (.int .u8 (x : Int))).other (p := ⟨w.heap.size + 1 + 1, 0, none⟩) (show w.heap.size + 1 ≠ w.heap.size + 1 + 1 by omega) (.bool true))
    have hS2 := hid ((h2.other (p := ⟨w.heap.size + 1, 0, none⟩) (show w.heap.size + 1 + 1 ≠ w.heap.size + 1 by omega) (.int .u8 (x : Int))).put 0 (.bool true))
    have hS3 := hid ((h4.setCell (p := ⟨w.heap.size + 1, 0, none⟩) (Nat.le_succ _) (.int .u8 (x : Int))).setCell (p := ⟨w.heap.size + 1 + 1, 0, none⟩) (show w.heap.size ≤ w.heap.size + 1 + 1 by omega) (.bool true))
    have hS4 := hid (((KeepsOthers.setCell W ⟨w.heap.size + 1, 0, none⟩ (.int .u8 (x : Int))).trans (KeepsOthers.setCell _ ⟨w.heap.size + 1 + 1, 0, none⟩ (.bool true))).from w3.heap.size)
    clear h1 h2 h3 h4 hpre
    gi_wp2
    exact ⟨hS4.out, rfl, x, rfl, hS1.out, hS2.out, hS3.out, h5⟩
  case done =>
    rintro D W hD ⟨hnil, h1, h2, h3, h4, h5⟩ hK
    have ha := (bytesOf_nil a).1 hnil
    have HF := hid (show firstN a = 0 by unfold firstN; rw [hnil]; rfl)
    have HA := hid (show (!decide (a = 0#256)) = false by rw [decide_eq_true ha]; rfl)
    have hx0 := h1.at 0
    have hx1 := h1.free 0
    have hy0 := h2.at 0
    have hy1 := h2.free 0
    have hS1 := ((h1.put 0 (.int .u8 0)).other (p := ⟨w.heap.size + 1 + 1, 0, none⟩) (show w.heap.size + 1 ≠ w.heap.size + 1 + 1 by omega) (.bool false))
    have hS2 := ((h2.other (p := ⟨w.heap.size + 1, 0, none⟩) (show w.heap.size + 1 + 1 ≠ w.heap.size + 1 by omega) (.int .u8 0)).put 0 (.bool false))
    have hS3 := ((h4.setCell (p := ⟨w.heap.size + 1, 0, none⟩) (Nat.le_succ _) (.int .u8 0)).setCell (p := ⟨w.heap.size + 1 + 1, 0, none⟩) (show w.heap.size ≤ w.heap.size + 1 + 1 by omega) (.bool false))
    have hK2 := ((KeepsOthers.setCell W ⟨w.heap.size + 1, 0, none⟩ (.int .u8 0)).trans (KeepsOthers.setCell _ ⟨w.heap.size + 1 + 1, 0, none⟩ (.bool false))).same D _ hK rfl
    have H1 := hid ((hS1.putObj (.deferred none) (show w.heap.size + 1 ≠ D by omega)).at 0)
    have H2 := hid ((hS2.putObj (.deferred none) (show w.heap.size + 1 + 1 ≠ D by omega)).at 0)
    have H3 := hid (below_putD hS3 (show w.heap.size ≤ D by omega) hK2 (.deferred none))
    have HK := hid hK2
    clear h1 h2 h3 h4 hS1 hS2 hS3 hK2 hK hnil ha
    gi_wp2
    refine ⟨by simp, .inl ⟨_, _, rfl, run_takeDeferred HK.out, ?_⟩⟩
    have h1 := H1.out
    have h2 := H2.out
    refine ⟨.tuple #[.int .u8 0, .bool false], ?_, by rw [HF.out, HA.out]; rfl, H3.out, h5⟩
    simp at h1 h2
    simp [results, Tryd.f43, go_sem, h1, h2]
  case stop =>
    rintro D c pre x post W hD hpre ⟨rfl, y, hy, h1, h2, h4, h5⟩ hK
    obtain ⟨rfl, rfl⟩ : pre = [] ∧ x = y := by
      cases pre with
      | nil => simp at hy; exact ⟨rfl, hy⟩
      | cons z pre => simp at hy
    have ha : a ≠ 0#256 := fun h => by rw [(bytesOf_nil a).2 h] at hpre; cases hpre
    have HF := hid (show firstN a = x by unfold firstN; rw [hpre]; rfl)
    have HA := hid (show (!decide (a = 0#256)) = true by rw [decide_eq_false ha]; rfl)
    have H1 := hid ((h1.putObj (.deferred none) (show w.heap.size + 1 ≠ D by omega)).at 0)
    have H2 := hid ((h2.putObj (.deferred none) (show w.heap.size + 1 + 1 ≠ D by omega)).at 0)
    have H3 := hid (below_putD h4 (show w.heap.size ≤ D by omega) hK (.deferred none))
    have HK := hid hK
    clear h1 h2 h4 hK hpre hy ha
    gi_wp2
    refine ⟨by simp, .inl ⟨_, _, rfl, run_takeDeferred HK.out, ?_⟩⟩
    have h1 := H1.out
    have h2 := H2.out
    refine ⟨.tuple #[.int .u8 (x : Int), .bool true], ?_, by rw [HF.out, HA.out], H3.out, h5⟩
    simp at h1 h2
    simp [results, Tryd.f43, go_sem, h1, h2]
theorem first_any (a : BS) {w : World} (hT : TabAt w) :
    Calls Tryd.prog 43 #[setV a] w fun e w' => e = .returned (.tuple #[.int .u8 ((firstN a : Nat) : Int), .bool (!decide (a = 0#256))]) ∧ Below w.heap.size w w' :=
  (first_dr a hT).mono fun _ _ h => ⟨h.1, h.2.1⟩
end Go.Proofs.YtoiegkejkahfgaaDoor

/- class: byLeast. -/
namespace Go.Proofs.YtoiegkejkahfgaaDoor
set_option linter.unusedVariables false
set_option linter.unusedSimpArgs false
open Go.RowKit

/-- How two sets stand by their least bytes. -/
def lea (a b : BS) : Int := (firstN a : Int) - (firstN b : Int)
theorem first_lt (a : BS) : firstN a < 256 := by
  unfold firstN
  cases h : bytesOf a with
  | nil => decide
  | cons c l => exact bytesOf_lt a c (by rw [h]; simp)
set_option maxRecDepth 8000 in
theorem least_any (a b : BS) {w : World} (hT : TabAt w) :
    Calls Tryd.prog 28 #[setV a, setV b] w fun e w' => e = .returned (.int .i64 (lea a b)) ∧ Below w.heap.size w w' ∧ w.drawn ≤ w'.drawn := by
  have HF := hid (fun (W : World) (h : TabAt W) => first_dr a h)
  have HG := hid (fun (W : World) (h : TabAt W) => first_dr b h)
  have hb := @below_alloc2 w (.cells (setL a).toArray 43) (.cells (setL b).toArray 43)
  have hA := (Blk.fresh w 43 (setL a)).alloc (.cells (setL b).toArray 43)
  have hB := Blk.fresh (w.alloc (.cells (setL a).toArray 43)) 43 (setL b)
  rw [show (w.alloc (.cells (setL a).toArray 43)).heap.size = w.heap.size + 1 by simp] at hB
  have ha := first_lt a
  have hbl := first_lt b
  have HL := hid (show lea a b = (firstN a : Int) - (firstN b : Int) from rfl)
  have HT := hid (hT.keep hb)
  have HA := hid hA
  have HB := hid hB
  clear hA hB hT
  rw [setV_eq, setV_eq]
  unfold setV at HF HG
  go_enter Tryd.func28, Tryd.ntmps28
  obtain ⟨hc0, hc1, hc2, hc3⟩ := HA.out.cells4
  generalize (setL a).toArray = Va at *
  generalize (setL b).toArray = Vb at *
  go_wp2_with fail
  refine (HF.out _ HT.out).mono ?_
  rintro e w1 ⟨rfl, hb1, hdr1⟩
  have hd1' : w.drawn ≤ w1.drawn := hdr1
  obtain ⟨hd0, hd1, hd2, hd3⟩ := (HB.out.keep hb1).cells4
  have HT1 := hid (HT.out.keep hb1)
  have hbw := hb.trans (hb1.mono hb.size)
  clear hc0 hc1 hc2 hc3
  generalize firstN a = x at *
  generalize firstN b = y at *
  go_wp2_with fail
  refine (HG.out _ HT1.out).mono ?_
  rintro e w2 ⟨rfl, hb2, hdr2⟩
  go_wp2
  go_ret
  exact ⟨by rw [HL.out]; rfl, hbw.trans (hb2.mono hbw.size), Nat.le_trans hd1' hdr2⟩
end Go.Proofs.YtoiegkejkahfgaaDoor

/- class: Bytes. -/
namespace Go.Proofs.YtoiegkejkahfgaaDoor
set_option linter.unusedVariables false
set_option linter.unusedSimpArgs false
open Go.RowKit Go.Shelf
attribute [local go_sem] Oper.semAt_some

def toB (l : List Nat) : List UInt8 := l.map Nat.toUInt8
theorem toB_snoc (l : List Nat) (x : Nat) : (toB (l ++ [x])).map isB = (toB l).map isB ++ [isB x.toUInt8] := by simp [toB]
theorem toB_len (l : List Nat) : (toB l).length = l.length := by simp [toB]
theorem isB_of (x : Nat) (hx : x < 256) : isB x.toUInt8 = .int .u8 (x : Int) := by
  unfold isB
  rw [show x.toUInt8.toNat = x from by simp; omega]
theorem run_makeB0 (n : Nat) (hn : n ≤ 4294967296) (w : World) :
    (Instr.makeSlice 27 (.int .i64 0) (.int .i64 (n : Int))).run Tryd.prog w = .ok (.slice (some ⟨w.heap.size, 0, none⟩) 0 n) (w.alloc (.cells (zeros n) 5)) := by
  obtain ⟨i0, hi, hz0, hz1, hz2⟩ := info_parts info_b
  have hr := run_make (P := Tryd.prog) w 27 5 i0 (.int .u8 0) Tryd.underlying27 hi hz0 .i64 .i64 0 n (by omega) (by omega) (by rw [hz2]; omega) (by omega)
  rw [hz1] at hr
  simp only [Int.toNat_natCast, Nat.mul_one, made_zeros] at hr
  exact hr
theorem own_zero (w : World) (n : Nat) (hn : n ≤ 4294967296) : (w.alloc (.cells (zeros n) 5)).ownsRow w.heap.size 5 1 (.slice (some ⟨w.heap.size, 0, none⟩) 0 n) 0 [] :=
  ⟨rfl, .inr ⟨w.heap.size, n, _, rfl, Nat.le_refl _, heap_alloc_new w _, Nat.zero_le _, by simp only [maxLen]; omega, by simp [zeros], by simp⟩⟩

end Go.Proofs.YtoiegkejkahfgaaDoor

/- class: Len. -/
namespace Go.Proofs.YtoiegkejkahfgaaDoor
set_option linter.unusedVariables false
set_option linter.unusedSimpArgs false
open Go.RowKit

theorem oc_A (x : Nat) (hx : x < 18446744073709551616) : IntKind.u64.wrap (bits .and .u64 ((x : Int) / 2) 6148914691236517205 + bits .and .u64 (x : Int) 6148914691236517205) = ((swA 8 x : Nat) : Int) ∧ swA 8 x < 18446744073709551616 := by
  have h1 := and64 (x / 2) (rep8 85 8) (by omega) (by rw [rep85]; omega)
  have h2 := and64 x (rep8 85 8) hx (by rw [rep85]; omega)
  have l1 := and_le_r (x / 2) (rep8 85 8)
  have l2 := and_le_r x (rep8 85 8)
  unfold swA
  rw [rep85] at h1 h2 l1 l2 ⊢
  have e : ((x : Int) / 2) = ((x / 2 : Nat) : Int) := by omega
  rw [e]
  rw [show ((6148914691236517205 : Nat) : Int) = (6148914691236517205 : Int) from rfl] at h1 h2
  rw [h1, h2]
  generalize x / 2 &&& 6148914691236517205 = u at *
  generalize x &&& 6148914691236517205 = v at *
  rw [IntKind.wrap_u64]
  omega
theorem oc_B (x : Nat) (hx : x < 18446744073709551616) : IntKind.u64.wrap (bits .and .u64 ((x : Int) / 4) 3689348814741910323 + bits .and .u64 (x : Int) 3689348814741910323) = ((swB 8 x : Nat) : Int) ∧ swB 8 x < 9223372036854775808 := by
  have h1 := and64 (x / 4) (rep8 51 8) (by omega) (by rw [rep51]; omega)
  have h2 := and64 x (rep8 51 8) hx (by rw [rep51]; omega)
  have l1 := and_le_r (x / 4) (rep8 51 8)
  have l2 := and_le_r x (rep8 51 8)
  unfold swB
  rw [rep51] at h1 h2 l1 l2 ⊢
  have e : ((x : Int) / 4) = ((x / 4 : Nat) : Int) := by omega
  rw [e]
  rw [show ((3689348814741910323 : Nat) : Int) = (3689348814741910323 : Int) from rfl] at h1 h2
  rw [h1, h2]
  generalize x / 4 &&& 3689348814741910323 = u at *
  generalize x &&& 3689348814741910323 = v at *
  rw [IntKind.wrap_u64]
  omega
theorem oc_C (x : Nat) (hx : x < 9223372036854775808) : bits .and .u64 (IntKind.u64.wrap ((x : Int) / 16 + (x : Int))) 1085102592571150095 = ((swC 8 x : Nat) : Int) := by
  have h1 := and64 (x / 16 + x) (rep8 15 8) (by omega) (by rw [rep15]; omega)
  have e : IntKind.u64.wrap ((x : Int) / 16 + (x : Int)) = ((x / 16 + x : Nat) : Int) := by rw [IntKind.wrap_u64]; omega
  unfold swC
  rw [e]
  rw [rep15] at h1 ⊢
  exact h1
theorem oc_D (s k y : Nat) (hk : 0 < k) (hy : y = s + s / k) (h : y < 18446744073709551616) : IntKind.u64.wrap ((s : Int) + (s : Int) / (k : Int)) = (y : Int) := by
  have e : (s : Int) + (s : Int) / (k : Int) = (y : Int) := by rw [hy]; simp
  rw [e]; exact wrap_u64_nat y h
theorem oc_E (v : Nat) (hv : v < 18446744073709551616) : bits .and .i64 (wrap64 (v : Int)) 127 = ((v % 128 : Nat) : Int) := by
  have h1 : (BitVec.ofInt 64 (wrap64 (v : Int))).toNat = v := by
    rw [BitVec.toNat_ofInt]
    unfold wrap64
    omega
  have h2 : (BitVec.ofInt 64 (127 : Int)).toNat = 127 := by decide
  have h3 : v &&& 127 = v % 128 := Nat.and_two_pow_sub_one_eq_mod v 7
  show IntKind.i64.wrap ((BitVec.ofInt 64 (wrap64 (v : Int)) &&& BitVec.ofInt 64 127).toNat : Int) = _
  rw [BitVec.toNat_and, h1, h2, h3]
  rw [IntKind.wrap_i64]
  omega

set_option maxRecDepth 8000 in
theorem ones_any (x : Nat) (hx : x < 18446744073709551616) (w : World) :
    Calls Tryd.prog 44 #[.int .u64 (x : Int)] w fun e w' => e = .returned (.int .i64 ((cnt 64 x : Nat) : Int)) ∧ w = w' := by
  obtain ⟨hA, hA2⟩ := oc_A x hx
  obtain ⟨hB, hB2⟩ := oc_B (swA 8 x) hA2
  have hC := oc_C (swB 8 (swA 8 x)) hB2
  obtain ⟨hv, hz, hy, hs, hcnt⟩ := sw_sum x _ _ _ rfl rfl rfl
  change _ = ((sw x : Nat) : Int) at hC
  have hD1 := oc_D (sw x) 256 _ (by decide) rfl hy
  have hD2 := oc_D _ 65536 _ (by decide) rfl hz
  have hD3 := oc_D _ 4294967296 _ (by decide) rfl hv
  have HC := hid hcnt
  generalize sw x + sw x / 256 = y at *
  generalize y + y / 65536 = z at *
  generalize z + z / 4294967296 = v at *
  generalize sw x = s at *
  generalize swB 8 (swA 8 x) = b at *
  generalize swA 8 x = a at *
  rw [show ((256 : Nat) : Int) = 256 from rfl] at hD1
  rw [show ((65536 : Nat) : Int) = 65536 from rfl] at hD2
  rw [show ((4294967296 : Nat) : Int) = 4294967296 from rfl] at hD3
  have HE := hid (oc_E v hv)
  clear hcnt hx hA2 hB2 hs hy hz hv
  go_enter Tryd.func44, Tryd.ntmps44
  go_wp2
  go_ret
  exact ⟨ret_int (by rw [HE.out, HC.out]), rfl⟩

/-- The bits of the first k words. -/
def lenN (a : BS) : Nat → Nat
  | 0 => 0
  | k + 1 => lenN a k + cnt 64 (wd a k)
theorem lenN_four (a : BS) : lenN a 4 = (bytesOf a).length := by
  rw [bytesOf_words, List.length_append, List.length_append, List.length_append, bitsOf_len, bitsOf_len, bitsOf_len, bitsOf_len]
  simp [lenN]
  omega
theorem cnt_le (n x : Nat) : cnt n x ≤ n := by
  have := List.length_filter_le x.testBit (List.range n)
  simpa [cnt] using this
theorem lenN_le (a : BS) (k : Nat) : lenN a k ≤ 64 * k := by
  induction k with
  | zero => simp [lenN]
  | succ k ih => have := cnt_le 64 (wd a k); simp only [lenN]; omega
set_option maxRecDepth 8000 in
theorem setLen_any (a : BS) (w : World) :
    Calls Tryd.prog 29 #[setV a] w fun e w' => e = .returned (.int .i64 ((bytesOf a).length : Nat)) ∧ Below w.heap.size w w' := by
  have HI := hid (fun (k : Nat) (hk : k < 4) (w : World) => run_ix a k hk w)
  rw [setV_eq]
  have hb := ((Below.refl w.heap.size w).alloc (Nat.le_refl _) (.cells (setL a).toArray 43))
  have hg : (w.alloc (.cells (setL a).toArray 43)).heap[w.heap.size]? = some (.cells (setL a).toArray 43) := Blk.fresh w 43 (setL a)
  have hi := set_info (wd a)
  change _ = some (setL a).toArray.size at hi
  generalize (setL a).toArray = Va at *
  go_enter Tryd.func29, Tryd.ntmps29
  go_wp2_with (refine wpList_load_row rfl 43 _ rfl w.heap.size rfl 43 _ (0, 0) _ hg Tryd.underlying43 rfl hi ?_)
  generalize w.alloc (.cells Va 43) = w1 at *
  go_loop [3, 7] (fun v i => ∃ k : Nat, k ≤ 4 ∧ i = .int .i64 k ∧ v = .int .i64 ((lenN a k : Nat) : Int)) (fun _ i => 4 - (intOf i).toNat)
  case atStart => exact ⟨0, by omega, rfl, rfl⟩
  case round =>
    obtain ⟨k, hk, rfl, rfl⟩ := hrel
    by_cases hlt : k < 4
    · have hix := HI.out k hlt
      have hl := lenN_le a k
      have HS := hid (show lenN a (k + 1) = lenN a k + cnt 64 (wd a k) from rfl)
      have hc := cnt_le 64 (wd a k)
      have HO := hid (fun W => ones_any (wd a k) (wd_lt a k) W)
      generalize wd a k = x at *
      generalize cnt 64 x = y at *
      generalize lenN a k = z at *
      go_wp2_with (go_at_call 44; refine (HO.out _).mono ?_; rintro e w' ⟨rfl, rfl⟩)
      go_round
      case rel => exact ⟨k + 1, by omega, by go_num, by rw [HS.out]; go_num⟩
      case measure => simp [intOf]; omega
    · obtain rfl : k = 4 := by omega
      have HE := hid (lenN_four a)
      go_wp2
      go_ret
      exact ⟨by rw [HE.out]; rfl, hb⟩
end Go.Proofs.YtoiegkejkahfgaaDoor

/- class: Bytes, walked. -/
namespace Go.Proofs.YtoiegkejkahfgaaDoor
set_option linter.unusedVariables false
set_option linter.unusedSimpArgs false
open Go.RowKit Go.Shelf
attribute [local go_sem] Oper.semAt_some

set_option maxRecDepth 100000 in
set_option maxHeartbeats 1000000 in
theorem bytes_any (a : BS) {w : World} (hT : TabAt w) :
    Calls Tryd.prog 12 #[setV a] w fun e w' => ∃ v, e = .returned v ∧ w'.ownsRow w.heap.size 5 1 v (bytesOf a).length ((toB (bytesOf a)).map isB) ∧ Below w.heap.size w w' := by
  refine (callsIn_wide (n := 3)).1 ?_
  obtain ⟨i0, hi, hz0, hz1, hz2⟩ := info_parts info_b
  have hA := Blk.fresh w 43 (setL a)
  have hb := ((Below.refl w.heap.size w).alloc (Nat.le_refl _) (.cells (setL a).toArray 43))
  have hlen := bytesOf_len a
  have hmk := run_makeB0 (bytesOf a).length (by omega)
  have HL := hid (fun W => setLen_any a W)
  have HZ := hid (fun W => own_zero W (bytesOf a).length (by omega))
  have hsv : setV a = .agg #[.int .u64 ((wd a 0 : Nat) : Int), .int .u64 ((wd a 1 : Nat) : Int), .int .u64 ((wd a 2 : Nat) : Int), .int .u64 ((wd a 3 : Nat) : Int)] := rfl
  rw [show setV a = .agg (setL a).toArray from rfl]
  refine callsIn_of_wp_marks Tryd.func12 rfl trivial ?_ rfl
  simp only [Tryd.ntmps12, List.size_toArray, List.length_cons, List.length_nil, Nat.reduceAdd, Nat.reduceSub, Array.replicate_succ, Array.replicate_zero, List.push_toArray, List.append_toArray, List.nil_append, List.cons_append]
  obtain ⟨hc0, hc1, hc2, hc3⟩ := hA.cells4
  generalize hVa : (setL a).toArray = Va at *
  have HVa := hid hVa
  have hVa2 : Va = Va := rfl
  have hlb : (bytesOf a).length ≤ 4294967296 := by omega
  generalize hn : (bytesOf a).length = m at *
  have HM := hid hn
  clear hVa hn
  rw [← hVa2] at hb
  gi_wp2_with fail
  refine wide_call2 (HL.out _) ?_
  rintro e w1 ⟨rfl, hb1⟩
  have hA1 := hA.keep hb1
  have hbw := hb.trans (hb1.mono hb.size)
  have hs1 := hbw.size
  have hs2 := hb1.size
  rw [World.size_alloc] at hs2
  obtain ⟨hd0, hd1, hd2, hd3⟩ := ((hA1.alloc (.cells (zeros m) 5)).alloc (.cells #[.slice (some ⟨w1.heap.size, 0, none⟩) 0 m] 27)).cells4
  clear hc0 hc1 hc2 hc3
  gi_wp2
  rw [← hsv]
  have HSV := hid hsv
  have hrow : ((w1.alloc (.cells (zeros m) 5)).alloc (.cells #[.slice (some ⟨w1.heap.size, 0, none⟩) 0 m] 27)).ownsRow w.heap.size 5 1 (.slice (some ⟨w1.heap.size, 0, none⟩) 0 m) 0 [] := by
    have h := (HZ.out w1).alloc (.cells #[.slice (some ⟨w1.heap.size, 0, none⟩) 0 m] 27)
    exact ⟨h.1, by
      rcases h.2 with hh | ⟨g, cap, cur, h1, h2, r⟩
      · exact .inl hh
      · exact .inr ⟨g, cap, cur, h1, by omega, r⟩⟩
  have hbox : Boxed ((w1.alloc (.cells (zeros m) 5)).alloc (.cells #[.slice (some ⟨w1.heap.size, 0, none⟩) 0 m] 27)) (w1.heap.size + 1) 27 (.slice (some ⟨w1.heap.size, 0, none⟩) 0 m) := by
    have := Boxed.new (w1.alloc (.cells (zeros m) 5)) 27 (.slice (some ⟨w1.heap.size, 0, none⟩) 0 m)
    rwa [World.size_alloc] at this
  have hB : Below w.heap.size w ((w1.alloc (.cells (zeros m) 5)).alloc (.cells #[.slice (some ⟨w1.heap.size, 0, none⟩) 0 m] 27)) := (hbw.alloc hs1 _).alloc (by simp; omega) _
  have hsz : ((w1.alloc (.cells (zeros m) 5)).alloc (.cells #[.slice (some ⟨w1.heap.size, 0, none⟩) 0 m] 27)).heap.size = w1.heap.size + 2 := by simp
  generalize hv0 : Value.slice (some ⟨w1.heap.size, 0, none⟩) 0 m = v0 at *
  generalize (w1.alloc (.cells (zeros m) 5)).alloc (.cells #[v0] 27) = w3 at *
  have hT3 := hT.keep hB
  have hT0 := hT.lt
  obtain ⟨bx, hbx⟩ : ∃ bx, bx = w1.heap.size + 1 := ⟨_, rfl⟩
  rw [← hbx] at hbox ⊢
  have hbx1 : w.heap.size ≤ bx := by omega
  have hbx2 : w.heap.size ≤ w3.heap.size := by omega
  have hT4 : 0 < w3.heap.size := by omega
  clear hbx hsz
  clear hd0 hd1 hd2 hd3 hA1 hA hsv hmk HZ hVa2 hb hv0
  generalize setV a = sv at *
  refine range_each a (by rw [HSV.out]; rfl) rfl
    (fun pre W => (∃ v, Boxed W bx 27 v ∧ W.ownsRow w.heap.size 5 1 v pre.length ((toB pre).map isB) ∧ True) ∧ TabAt W ∧ Below w.heap.size w W)
    (fun _ _ _ => False)
    (OwnFrom.and (Own.from (holdsRow_own w.heap.size bx 27 5 1 (fun pre => pre.length) (fun pre => (toB pre).map isB) (fun _ _ => True)) _) (OwnFrom.and (own_tab (by omega)) (ownFrom_below (Nat.le_refl _) (by omega))))
    (fun _ _ _ _ _ hs _ _ => hs)
    ⟨⟨v0, hbox, hrow, trivial⟩, hT3, hB⟩ (fun _ _ h => h.2.1)
    (fun x => { tmps := #[Value.agg Va, Value.pointer (some { block := w.heap.size, off := 0 }), Value.slice none 0 0, Value.pointer (some { block := bx, off := 0 }), .int .u8 (x : Int), sv, .int .i64 (m : Int), v0, sv, Value.func (Fn.func 30) #[sv] #[], .int .u8 (x : Int), undef, undef, undef, undef, undef], defers := [] }) ?assign ?body ?done ?stop
  case assign =>
    intro l x W K hK
    gi_wp2
    exact hK
  case body =>
    rintro l pre x post W ⟨⟨v, hv, hrow, _⟩, h3, h4⟩ hpre
    have hc := hv.cell
    have hxl : x < 256 := bytesOf_lt a x (by rw [hpre]; simp)
    have hpl : pre.length + 1 ≤ 4294967296 := by
      have h1 := bytesOf_len a
      rw [hpre] at h1
      simp at h1
      omega
    have HX := hid (isB_of x hxl)
    have HP := hid (toB_snoc pre x)
    clear hpre
    gi_wp2_with (gi_at_builtin; refine wpListIn_append_own _ rfl _ _ 27 rfl w.heap.size 5 i0 (.int .u8 0) 1 1 Tryd.underlying27 hi hz0 hz1 hz2 rfl (by decide) _ _ _ rfl (hrow.alloc _) ⟨W.heap.size, 0, none⟩ 1 1 [.int .u8 (x : Int)] rfl rfl (cell_one_new _ _ _) (by simp [Value.oneCell']) (by simp only [maxLen]; omega) (by omega) (by have := h4.size; simp; omega) ?_; intro v' w1 hown' hgrow _; obtain ⟨g', cap', rfl⟩ := ownsRow_succ hown'; obtain ⟨hv1, hv2, hr2, hk2, hb2⟩ := hv.appended (by decide) hrow h4.size (by omega) hown' hgrow; have hc1 := hv1.cell; have hf1 := hv1.frozen)
    have e : (toB pre).map isB ++ [Value.int .u8 (x : Int)] = (toB (pre ++ [x])).map isB := by rw [HP.out, HX.out]
    rw [e] at hr2
    exact ⟨hk2.from _, trivial, ⟨_, hv2, by simpa using hr2, trivial⟩, h3.below hT0 hb2, h4.trans hb2⟩
  case done =>
    rintro D W hD ⟨⟨v, hv, hrow, _⟩, h3, h4⟩ hK
    have hc := hv.cell
    gi_wp2
    refine ⟨by simp, .inl ⟨_, _, rfl, run_takeDeferred hK, ?_⟩⟩
    refine ⟨_, results_tmp rfl _ _ _, v, rfl, ?_, below_putD h4 (by omega) hK _⟩
    rw [← HM.out]
    exact ownsRow_putObj hrow _ hK rfl
  case stop =>
    rintro D c pre x post W hD hpre h hK
    exact h.elim
end Go.Proofs.YtoiegkejkahfgaaDoor
