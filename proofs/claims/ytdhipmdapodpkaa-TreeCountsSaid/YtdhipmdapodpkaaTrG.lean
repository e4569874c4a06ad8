/- tree: Each. -/
import Derived.Test.YtdhipmdapodpkaaTrC
namespace Go.Proofs.Ytdhipmdapodpkaa
set_option linter.unusedSimpArgs false
set_option linter.unusedVariables false
open Go.RowKit

/-- What a count of calls answers: whether all were wanted, and how many there were. -/
def visN (ret : Nat → Bool) : Nat → Nat → Bool × Nat
  | 0, c => (true, c)
  | k + 1, c => if ret (c + 1) = true then visN ret k (c + 1) else (false, c + 1)
theorem visN_add (ret : Nat → Bool) : ∀ (a b c : Nat), visN ret (a + b) c = if (visN ret a c).1 = true then visN ret b (visN ret a c).2 else visN ret a c
  | 0, b, c => by simp [visN]
  | a + 1, b, c => by
    rw [show a + 1 + b = (a + b) + 1 by omega]
    simp only [visN]
    split
    · exact visN_add ret a b _
    · simp
theorem visN_true (ret : Nat → Bool) : ∀ (a c : Nat), (visN ret a c).1 = true → (visN ret a c).2 = c + a
  | 0, c, _ => rfl
  | a + 1, c, h => by
    simp only [visN] at h ⊢
    split at h
    · rename_i hr
      rw [if_pos hr, visN_true ret a _ h]
      omega
    · cases h
/-- A function that counts the trees that it is handed. -/
structure YieldsT (F : Nat) (caps : Array Value) (cb : Nat) (ret : Nat → Bool) (Y : Nat → World → Prop) : Prop where
  ent : ∀ args w, (callFunc F args).run Try.prog w = .ok (.enter F args) w
  call : ∀ (c : Nat) (v : TV) W, Y c W → c < 1048576 → Calls Try.prog F (#[v.val] ++ caps) W fun e W' => e = .returned (.bool (ret (c + 1))) ∧ Y (c + 1) W' ∧ Chg W W' (· = cb)
  keep : ∀ c W W', Y c W → Below W.heap.size W W' → Y c W'
  lt : ∀ c W, Y c W → cb < W.heap.size
theorem fn_nil (F : Nat) (caps : Array Value) (W : World) : Sem.run Try.prog (binOp BinOp.eql 35 (.func (.func F) #[] caps) .nilFunc) W = .ok (.bool false) W := by kernel_rfl
/-- What Each promises. -/
def EachAt (F : Nat) (caps : Array Value) (cb : Nat) (ret : Nat → Bool) (Y : Nat → World → Prop) (P : Nat → Prop) (t : TT) : Prop := ∀ (v : TV) (w : World) (c : Nat), Rep w P v t → (∀ b, P b → b ≠ cb) → c + szT t ≤ 1048576 → wT t ≤ 1048576 → Y c w →
  Calls Try.prog 14 #[v.val, .func (.func F) #[] caps] w fun e w' => e = .returned (.bool (visN ret (szT t) c).1) ∧ Y (visN ret (szT t) c).2 w' ∧ Chg w w' (· = cb)
set_option maxRecDepth 100000 in
set_option maxHeartbeats 4000000 in
theorem each_any {F : Nat} {caps : Array Value} {cb : Nat} {ret : Nat → Bool} {Y : Nat → World → Prop} (HY : YieldsT F caps cb ret Y) {P : Nat → Prop} : ∀ t, EachAt F caps cb ret Y P t := by
  refine TT.ind fun nn bb d ks ih => ?_
  intro v w c hR hP hsz hwt hy
  obtain ⟨rfl, rfl, hnum, hdn, hD, hkn, xs, hxl, hK, hr⟩ := hR.inv
  obtain ⟨hb, h1⟩ := box_new w v
  have HIh := hid ih
  have HP := hid hP
  have H1 := hid (show RepL w P v.K ks xs from ⟨hkn, hxl, hK, hr⟩)
  rw [szT] at hsz ⊢
  rw [wT] at hwt
  have hwl := wL_len ks
  have HSz := hid hsz
  have HWt := hid hwt
  have hvc : v.cells.toArray = #[.int .u64 (v.num : Int), .bool v.bl, .slice v.D.A v.D.n v.D.c, .slice v.K.A v.K.n v.K.c] := rfl
  rw [hvc] at hb h1
  have HX := hid h1
  have HB := hid hb
  obtain ⟨x0, x1, x2, x3⟩ := h1.four
  have HN := hid (show v.K.n = ks.length from hkn)
  have HDn := hid (show v.D.n = d.length from hdn)
  have hnb : v.K.n ≤ 1048576 := by omega
  have HYc := hid (fun W (hW : Below w.heap.size w W) => HY.call c v W (HY.keep _ _ _ hy hW) (by have := HSz.out; omega))
  have HCb := hid (HY.lt _ _ hy)
  have hent := HY.ent
  have hnil := fun W => fn_nil F caps W
  obtain ⟨RR, hRR⟩ : ∃ RR : Ending → World → Prop, RR = fun e w' => e = .returned (.bool (visN ret (1 + szL ks) c).1) ∧ Y (visN ret (1 + szL ks) c).2 w' ∧ Chg w w' (· = cb) := ⟨_, rfl⟩
  rw [← hRR]
  have HRR := hid hRR
  have hv1 : visN ret (1 + szL ks) c = if ret (c + 1) = true then visN ret (szL ks) (c + 1) else (false, c + 1) := by rw [Nat.add_comm 1]; rfl
  have HV1 := hid hv1
  clear hRR hv1 ih hr hb h1 hD hK hR hvc hnum hdn hkn hxl hP hsz hwt hwl hy
  unfold TV.val at HYc ⊢
  obtain ⟨num, bl, ⟨DA, Dn, Dc⟩, ⟨KA, n, Kc⟩⟩ := v
  simp only at *
  go_enter Try.func14, Try.ntmps14
  go_upto_region 1 with (fail)
  generalize w.alloc (.cells #[.int .u64 (num : Int), .bool bl, .slice DA Dn Dc, .slice KA n Kc] 26) = w1 at *
  have HYc1 := hid (HYc.out _ HB.out)
  clear HYc
  cases hr1 : ret (c + 1)
  · rw [hr1] at HYc1
    go_wp2_with ((with_reducible refine HYc1.out.mono ?_); rintro e w2 ⟨rfl, hy2, hc2⟩; have HE := hid hy2; have HC := hid ((Chg.of_below HB.out _).trans hc2); clear hy2 hc2 x0 x1 x2 x3)
    show RR (.returned (.bool false)) w2
    rw [HRR.out, HV1.out, hr1]
    exact ⟨rfl, HE.out, HC.out⟩
  · rw [hr1] at HYc1
    have HV2 := hid (show visN ret (1 + szL ks) c = visN ret (szL ks) (c + 1) by rw [HV1.out, if_pos hr1])
    go_upto_region 5 with ((with_reducible refine HYc1.out.mono ?_); rintro e w2 ⟨rfl, hy2, hc2⟩; have HE := hid hy2; have HC := hid ((Chg.of_below HB.out _).trans hc2); have HX2 := hid (HX.out.chg hc2 (by have := HCb.out; omega)); clear hy2 hc2 x0 x1 x2 x3)
    obtain ⟨x0, x1, x2, x3⟩ := BoxT.four (v := ⟨num, bl, ⟨DA, Dn, Dc⟩, ⟨KA, n, Kc⟩⟩) HX2.out
    simp only at x0 x1 x2 x3
    go_wp2_with fail
    go_loopw [16] (fun i wr => ∃ q : Nat, q ≤ n ∧ i = .int .i64 q ∧ Hid (visN ret (szL (ks.take q)) (c + 1) = (true, c + 1 + szL (ks.take q))) ∧ Hid (Y (c + 1 + szL (ks.take q)) wr) ∧ Hid (Chg w wr (· = cb))) (fun i _ => n - (intOf i).toNat)
    case atStart => exact ⟨0, by omega, rfl, hid (by simp [szL, visN]), hid (by simpa [szL] using HE.out), HC⟩
    case round =>
      clear HB HE HC HX HX2 HYc1 x0 x1 x2 x3
      obtain ⟨q, hq, rfl, HVq, HE, HB⟩ := hrel
      by_cases hlt : q < n
      · have hlt' : (q : Int) < (n : Int) := by omega
        have hk1 : q < ks.length := by rw [← HN.out]; exact hlt
        have hq1 : q < xs.length := by rw [H1.out.l]; exact hk1
        obtain ⟨b1, o1, hA, hbl, hPb, g1⟩ := Rw.range H1.out.r hq1
        have hA' : KA = some ⟨b1, o1, none⟩ := hA
        have HR1 := hid (H1.out.each q hq1 hk1)
        obtain ⟨y, hy⟩ : ∃ y, y = xs[q] := ⟨_, rfl⟩
        obtain ⟨u, hu⟩ : ∃ u, u = ks[q] := ⟨_, rfl⟩
        rw [← hy] at g1 HR1
        rw [← hu] at HR1
        have HU := hid hu
        have g1' := range_keep g1 (HB.out.block b1 hbl (HP.out b1 hPb))
        have hbx := row_new wr 26 #[.int .u64 0, .bool false, .slice none 0 0, .slice none 0 0] y.cells.toArray
        have hX4 : Blk ((wr.alloc (.cells #[.int .u64 0, .bool false, .slice none 0 0, .slice none 0 0] 26)).setRow wr.heap.size y.cells.toArray) wr.heap.size 26 y.cells := setRow_heap _ _ _ _ _ (0, 0) (heap_alloc_new wr _)
        obtain ⟨W4, hW4⟩ : ∃ W4, W4 = (wr.alloc (.cells #[.int .u64 0, .bool false, .slice none 0 0, .slice none 0 0] 26)).setRow wr.heap.size y.cells.toArray := ⟨_, rfl⟩
        rw [← hW4] at hbx hX4
        have hB4 := HB.out.trans (Chg.of_below hbx _)
        obtain ⟨e0, e1, e2, e3⟩ := tv_range g1'
        have hx4 : BoxT W4 wr.heap.size y := hX4
        obtain ⟨z0, z1, z2, z3⟩ := hx4.four
        have HB4 := hid hB4
        have HBx := hid hbx
        have HW4 := hid hW4
        have HSf := hid (tv_size y)
        have HOf := hid (tv_one y)
        have HR4 := hid (HR1.out.mono (fun b hp hl => hB4.block b hl (HP.out b hp)) hB4.size (fun _ h _ => h))
        have HT := hid (show szL (ks.take (q + 1)) = szL (ks.take q) + szT u by rw [hu]; exact szL_take hk1)
        have HT2 := hid (show szL (ks.take (q + 1)) ≤ szL ks from szL_take_le ks _)
        have HEq := hid (show szL ks = szL (ks.take q) + (szT u + szL (ks.drop (q + 1))) by
          have h2 := congrArg szL (List.take_append_drop (q + 1) ks)
          rw [szL_app, szL_take hk1, ← hu] at h2
          omega)
        have HCl := hid (HIh.out u (by rw [hu]; exact List.getElem_mem _) y W4 (c + 1 + szL (ks.take q)) HR4.out HP.out (by have := HT.out; have := HT2.out; have := HSz.out; omega) (by rw [hu]; exact Nat.le_trans (wL_get hk1) (by have := HWt.out; omega)) (HY.keep _ _ _ HE.out hbx))
        unfold TV.val at HCl
        clear hbx hX4 hB4 hW4 g1 g1' hbl hPb hA hy hu hx4 HR1
        rw [hA']
        obtain ⟨r, hr⟩ : ∃ r, r = visN ret (szT u) (c + 1 + szL (ks.take q)) := ⟨_, rfl⟩
        rw [← hr] at HCl
        have HRr := hid hr
        obtain ⟨rb, rn⟩ := r
        clear hr
        cases rb
        · go_wp2_with (first
            | ((with_reducible refine wpList_store_row rfl 26 _ _ rfl wr.heap.size y.cells.toArray ?_ ?_ 26 #[.int .u64 0, .bool false, .slice none 0 0, .slice none 0 0] (heap_alloc_new wr _) HSf.out ?_ HOf.out ?_); exact rfl; exact rfl; exact rfl; rw [← HW4.out])
            | (go_at_call 14; (with_reducible refine HCl.out.mono ?_); rintro e w6 ⟨rfl, hy6, hc6⟩; have HY6 := hid hy6; have HB6 := hid (HB4.out.trans hc6); clear hy6 hc6 z0 z1 z2 z3 e0 e1 e2 e3))
          show RR (.returned (.bool false)) w6
          rw [HRR.out]
          have hv : visN ret (1 + szL ks) c = (false, rn) := by
            rw [HV2.out, HEq.out, visN_add, HVq.out, if_pos rfl, visN_add, ← HRr.out, if_neg (by simp)]
          rw [hv]
          exact ⟨rfl, HY6.out, HB6.out⟩
        · have HRn := hid (show rn = c + 1 + szL (ks.take (q + 1)) by
            have := visN_true ret _ _ (show (visN ret (szT u) (c + 1 + szL (ks.take q))).1 = true by rw [← HRr.out])
            rw [← HRr.out] at this
            have h2 := HT.out
            simp only at this
            omega)
          have HVn := hid (show visN ret (szL (ks.take (q + 1))) (c + 1) = (true, c + 1 + szL (ks.take (q + 1))) by
            rw [HT.out, visN_add, HVq.out, if_pos rfl, ← HRr.out, HRn.out, HT.out])
          go_wp2_with (first
            | ((with_reducible refine wpList_store_row rfl 26 _ _ rfl wr.heap.size y.cells.toArray ?_ ?_ 26 #[.int .u64 0, .bool false, .slice none 0 0, .slice none 0 0] (heap_alloc_new wr _) HSf.out ?_ HOf.out ?_); exact rfl; exact rfl; exact rfl; rw [← HW4.out])
            | (go_at_call 14; (with_reducible refine HCl.out.mono ?_); rintro e w6 ⟨rfl, hy6, hc6⟩; have HY6 := hid hy6; have HB6 := hid (HB4.out.trans hc6); clear hy6 hc6 z0 z1 z2 z3 e0 e1 e2 e3))
          exact ⟨⟨q + 1, by omega, by go_num, HVn, hid (by rw [← HRn.out]; exact HY6.out), HB6⟩, by simp [intOf]; omega⟩
      · obtain rfl : q = n := by omega
        have e : ks.take q = ks := by rw [HN.out, List.take_length]
        rw [e] at HVq HE
        clear e
        go_wp2_with fail
        show RR (.returned (.bool true)) _
        rw [HRR.out, HV2.out, HVq.out]
        exact ⟨rfl, HE.out, HB.out⟩
end Go.Proofs.Ytdhipmdapodpkaa
