/- class: Bytes. -/
import Derived.Test.YtkjdmbbdclkkgaaDoorFirst
import Derived.RangeFuncBox
import Derived.Maps.AppendAt
import Derived.Laws.MakeOwn
namespace Go.Proofs.YtkjdmbbdclkkgaaDoor
open Go.RowKit Go.Shelf
attribute [local go_sem] Oper.semAt_some

def toB (l : List Nat) : List UInt8 := l.map Nat.toUInt8
theorem toB_snoc (l : List Nat) (x : Nat) : (toB (l ++ [x])).map isB = (toB l).map isB ++ [isB x.toUInt8] := by simp [toB]
theorem toB_len (l : List Nat) : (toB l).length = l.length := by simp [toB]
theorem isB_of (x : Nat) (hx : x < 256) : isB x.toUInt8 = .int .u8 (x : Int) := by
  unfold isB
  rw [show x.toUInt8.toNat = x from by simp; omega]
theorem run_makeB0 (n : Nat) (hn : n ≤ 4294967296) (w : World) :
    (Instr.makeSlice 50 (.int .i64 0) (.int .i64 (n : Int))).run Tryd.prog w = .ok (.slice (some ⟨w.heap.size, 0, none⟩) 0 n) (w.alloc (.cells (zeros n) 5)) := by
  obtain ⟨i0, hi, hz0, hz1, hz2⟩ := info_parts info_b
  have hr := run_make (P := Tryd.prog) w 50 5 i0 (.int .u8 0) Tryd.underlying50 hi hz0 .i64 .i64 0 n (by omega) (by omega) (by rw [hz2]; omega) (by omega)
  rw [hz1] at hr
  simp only [Int.toNat_natCast, Nat.mul_one, made_zeros] at hr
  exact hr
theorem own_zero (w : World) (n : Nat) (hn : n ≤ 4294967296) : (w.alloc (.cells (zeros n) 5)).ownsRow w.heap.size 5 1 (.slice (some ⟨w.heap.size, 0, none⟩) 0 n) 0 [] :=
  ⟨rfl, .inr ⟨w.heap.size, n, _, rfl, Nat.le_refl _, heap_alloc_new w _, Nat.zero_le _, by simp only [maxLen]; omega, by simp [zeros], by simp⟩⟩

set_option maxRecDepth 100000 in
set_option maxHeartbeats 1000000 in
theorem bytes_any (a : BS) {w : World} (hT : TabAt w) :
    Calls Tryd.prog 32 #[setV a] w fun e w' => ∃ v, e = .returned v ∧ w'.ownsRow w.heap.size 5 1 v (bytesOf a).length ((toB (bytesOf a)).map isB) ∧ Below w.heap.size w w' := by
  refine (callsIn_wide (n := 3)).1 ?_
  obtain ⟨i0, hi, hz0, hz1, hz2⟩ := info_parts info_b
  have hA := Blk.fresh w 44 (setL a)
  have hb := ((Below.refl w.heap.size w).alloc (Nat.le_refl _) (.cells (setL a).toArray 44))
  have hlen := bytesOf_len a
  have hmk := run_makeB0 (bytesOf a).length (by omega)
  have HL := hid (fun W => len_any a W)
  have HZ := hid (fun W => own_zero W (bytesOf a).length (by omega))
  have hsv : setV a = .agg #[.int .u64 ((wd a 0 : Nat) : Int), .int .u64 ((wd a 1 : Nat) : Int), .int .u64 ((wd a 2 : Nat) : Int), .int .u64 ((wd a 3 : Nat) : Int)] := rfl
  rw [show setV a = .agg (setL a).toArray from rfl]
  refine callsIn_of_wp_marks Tryd.func32 rfl trivial ?_ rfl
  simp only [Tryd.ntmps32, List.size_toArray, List.length_cons, List.length_nil, Nat.reduceAdd, Nat.reduceSub, Array.replicate_succ, Array.replicate_zero, List.push_toArray, List.append_toArray, List.nil_append, List.cons_append]
  obtain ⟨hc0, hc1, hc2, hc3⟩ := hA.cells4
  generalize hVa : (setL a).toArray = Va at *
  have HVa := hid hVa
  have hVa2 : Va = Va := rfl
  have hlb : (bytesOf a).length ≤ 4294967296 := by omega
  generalize hn : (bytesOf a).length = m at *
  have HM := hid hn
  clear hVa hn
  rw [← hVa2] at hb
  gi_wp2_with fail
  refine wide_call2 (HL.out _) ?_
  rintro e w1 ⟨rfl, hb1⟩
  have hA1 := hA.keep hb1
  have hbw := hb.trans (hb1.mono hb.size)
  have hs1 := hbw.size
  have hs2 := hb1.size
  rw [World.size_alloc] at hs2
  obtain ⟨hd0, hd1, hd2, hd3⟩ := ((hA1.alloc (.cells (zeros m) 5)).alloc (.cells #[.slice (some ⟨w1.heap.size, 0, none⟩) 0 m] 50)).cells4
  clear hc0 hc1 hc2 hc3
  gi_wp2
  rw [← hsv]
  have HSV := hid hsv
  have hrow : ((w1.alloc (.cells (zeros m) 5)).alloc (.cells #[.slice (some ⟨w1.heap.size, 0, none⟩) 0 m] 50)).ownsRow w.heap.size 5 1 (.slice (some ⟨w1.heap.size, 0, none⟩) 0 m) 0 [] := by
    have h := (HZ.out w1).alloc (.cells #[.slice (some ⟨w1.heap.size, 0, none⟩) 0 m] 50)
    exact ⟨h.1, by
      rcases h.2 with hh | ⟨g, cap, cur, h1, h2, r⟩
      · exact .inl hh
      · exact .inr ⟨g, cap, cur, h1, by omega, r⟩⟩
  have hbox : Boxed ((w1.alloc (.cells (zeros m) 5)).alloc (.cells #[.slice (some ⟨w1.heap.size, 0, none⟩) 0 m] 50)) (w1.heap.size + 1) 50 (.slice (some ⟨w1.heap.size, 0, none⟩) 0 m) := by
    have := Boxed.new (w1.alloc (.cells (zeros m) 5)) 50 (.slice (some ⟨w1.heap.size, 0, none⟩) 0 m)
    rwa [World.size_alloc] at this
  have hB : Below w.heap.size w ((w1.alloc (.cells (zeros m) 5)).alloc (.cells #[.slice (some ⟨w1.heap.size, 0, none⟩) 0 m] 50)) := (hbw.alloc hs1 _).alloc (by simp; omega) _
  have hsz : ((w1.alloc (.cells (zeros m) 5)).alloc (.cells #[.slice (some ⟨w1.heap.size, 0, none⟩) 0 m] 50)).heap.size = w1.heap.size + 2 := by simp
  generalize hv0 : Value.slice (some ⟨w1.heap.size, 0, none⟩) 0 m = v0 at *
  generalize (w1.alloc (.cells (zeros m) 5)).alloc (.cells #[v0] 50) = w3 at *
  have hT3 := hT.keep hB
  have hT0 := hT.lt
  obtain ⟨bx, hbx⟩ : ∃ bx, bx = w1.heap.size + 1 := ⟨_, rfl⟩
  rw [← hbx] at hbox ⊢
  have hbx1 : w.heap.size ≤ bx := by omega
  have hbx2 : w.heap.size ≤ w3.heap.size := by omega
  have hT4 : 0 < w3.heap.size := by omega
  clear hbx hsz
  clear hd0 hd1 hd2 hd3 hA1 hA hsv hmk HZ hVa2 hb hv0
  generalize setV a = sv at *
  refine range_each a (by rw [HSV.out]; rfl) rfl
    (fun pre W => (∃ v, Boxed W bx 50 v ∧ W.ownsRow w.heap.size 5 1 v pre.length ((toB pre).map isB) ∧ True) ∧ TabAt W ∧ Below w.heap.size w W)
    (fun _ _ _ => False)
    (OwnFrom.and (Own.from (holdsRow_own w.heap.size bx 50 5 1 (fun pre => pre.length) (fun pre => (toB pre).map isB) (fun _ _ => True)) _) (OwnFrom.and (own_tab (by omega)) (ownFrom_below (Nat.le_refl _) (by omega))))
    (fun _ _ _ _ _ hs _ _ => hs)
    ⟨⟨v0, hbox, hrow, trivial⟩, hT3, hB⟩ (fun _ _ h => h.2.1)
    (fun x => { tmps := #[Value.agg Va, Value.pointer (some { block := w.heap.size, off := 0 }), Value.slice none 0 0, Value.pointer (some { block := bx, off := 0 }), .int .u8 (x : Int), sv, .int .i64 (m : Int), v0, sv, Value.func (Fn.func 49) #[sv] #[], .int .u8 (x : Int), undef, undef, undef, undef, undef], defers := [] }) ?assign ?body ?done ?stop
  case assign =>
    intro l x W K hK
    gi_wp2
    exact hK
  case body =>
    rintro l pre x post W ⟨⟨v, hv, hrow, _⟩, h3, h4⟩ hpre
    have hc := hv.cell
    have hxl : x < 256 := bytesOf_lt a x (by rw [hpre]; simp)
    have hpl : pre.length + 1 ≤ 4294967296 := by
      have h1 := bytesOf_len a
      rw [hpre] at h1
      simp at h1
      omega
    have HX := hid (isB_of x hxl)
    have HP := hid (toB_snoc pre x)
    clear hpre
    gi_wp2_with (gi_at_builtin; refine wpListIn_append_own _ rfl _ _ 50 rfl w.heap.size 5 i0 (.int .u8 0) 1 1 Tryd.underlying50 hi hz0 hz1 hz2 rfl (by decide) _ _ _ rfl (hrow.alloc _) ⟨W.heap.size, 0, none⟩ 1 1 [.int .u8 (x : Int)] rfl rfl (cell_one_new _ _ _) (by simp [Value.oneCell']) (by simp only [maxLen]; omega) (by omega) (by have := h4.size; simp; omega) ?_; intro v' w1 hown' hgrow _; obtain ⟨g', cap', rfl⟩ := ownsRow_succ hown'; obtain ⟨hv1, hv2, hr2, hk2, hb2⟩ := hv.appended (by decide) hrow h4.size (by omega) hown' hgrow; have hc1 := hv1.cell; have hf1 := hv1.frozen)
    have e : (toB pre).map isB ++ [Value.int .u8 (x : Int)] = (toB (pre ++ [x])).map isB := by rw [HP.out, HX.out]
    rw [e] at hr2
    exact ⟨hk2.from _, trivial, ⟨_, hv2, by simpa using hr2, trivial⟩, h3.below hT0 hb2, h4.trans hb2⟩
  case done =>
    rintro D W hD ⟨⟨v, hv, hrow, _⟩, h3, h4⟩ hK
    have hc := hv.cell
    gi_wp2
    refine ⟨by simp, .inl ⟨_, _, rfl, run_takeDeferred hK, ?_⟩⟩
    refine ⟨_, results_tmp rfl _ _ _, v, rfl, ?_, below_putD h4 (by omega) hK _⟩
    rw [← HM.out]
    exact ownsRow_putObj hrow _ hK rfl
  case stop =>
    rintro D c pre x post W hD hpre h hK
    exact h.elim
end Go.Proofs.YtkjdmbbdclkkgaaDoor
