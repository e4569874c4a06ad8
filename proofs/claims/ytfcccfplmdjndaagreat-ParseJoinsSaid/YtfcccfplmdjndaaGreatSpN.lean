/- spec: hold; a type's parts in order; parts hands them on. -/
import Derived.Test.YtfcccfplmdjndaaGreatSpH
namespace Go.Proofs.YtfcccfplmdjndaaGreat
set_option linter.unusedSimpArgs false
set_option linter.unusedVariables false
open Go.RowKit

def NT.parts (t : NT) : List Int := t.ks ++ t.fs.map FT.ty ++ t.cs.map CT.ty ++ (if t.k = 9 ∧ 0 ≤ t.el then [t.el] else [])
structure Hands (F : Nat) (caps : Array Value) (ps : List Int) (B : Nat) (Inv : Nat → World → Prop) (Stp : World → Prop) : Prop where
 ent : ∀ args w, (callFunc F args).run Tryz.prog w = .ok (.enter F args) w
 call : ∀ i (h : i < ps.length) W, Inv i W → B < W.heap.size → Calls Tryz.prog F (#[.int .i64 ps[i]] ++ caps) W fun e W' => ∃ b, e = .returned (.bool b) ∧ (W'.heap[B]? = W.heap[B]? ∧ W.heap.size ≤ W'.heap.size) ∧ (b = true → Inv (i + 1) W') ∧ (b = false → Stp W')
 keep : ∀ i W W', Inv i W → Below W.heap.size W W' → Inv i W'
def PartsR (n : Nat) (Inv : Nat → World → Prop) (Stp : World → Prop) (e : Ending) (w' : World) : Prop :=
 ∃ b, e = .returned (.bool b) ∧ (b = true → Inv n w') ∧ (b = false → Stp w')
def holdF (l : List Bool) (at_ : Int) : Except Nat (List Bool) :=
 if at_ < 0 ∨ (l.length : Int) ≤ at_ then .error 3 else if l.getD at_.toNat true = true then .error 4 else .ok (l.set at_.toNat true)
def holdR (l : List Bool) (m : Nat) (at_ : Int) (w : World) (g : Nat) (e : Ending) (w' : World) : Prop :=
 match holdF (l.take m) at_ with
 | .error c => e = .returned (.int .i64 (c : Nat)) ∧ w' = w
 | .ok _ => e = .returned (.int .i64 0) ∧ w' = w.setCell ⟨g, at_.toNat, none⟩ (.bool true)
set_option maxRecDepth 100000 in
set_option maxHeartbeats 1000000 in
theorem hold_any (l : List Bool) (m c : Nat) (hm : m ≤ l.length) (g : Nat) (at_ : Int) (w : World) (h : Blk w g 4 (boolC l)) : Calls Tryz.prog 30 #[.slice (some ⟨g, 0, none⟩) m c, .int .i64 at_] w (holdR l m at_ w g) := by
 have HP := hid (show holdR l m at_ w g = holdR l m at_ w g from rfl)
 by_cases h0 : at_ < 0
 ·have hP : holdF (l.take m) at_ = .error 3 := by unfold holdF; rw [if_pos (.inl h0)]
  have HQ := hid (show holdR l m at_ w g = fun e w' => e = .returned (.int .i64 (3 : Nat)) ∧ w' = w by unfold holdR; rw [hP])
  rw [HQ.out]
  clear h HP HQ hP hm
  go_enter Tryz.func30, Tryz.ntmps30
  go_wp2
  go_ret
  exact ⟨rfl, rfl⟩
 obtain ⟨k, rfl⟩ : ∃ k : Nat, at_ = (k : Int) := ⟨at_.toNat, by omega⟩
 by_cases h1 : m ≤ k
 ·have hP : holdF (l.take m) (k : Int) = .error 3 := by unfold holdF; rw [if_pos (.inr (by rw [List.length_take, Nat.min_eq_left hm]; omega))]
  have HQ := hid (show holdR l m (k : Int) w g = fun e w' => e = .returned (.int .i64 (3 : Nat)) ∧ w' = w by unfold holdR; rw [hP])
  rw [HQ.out]
  clear h HP HQ hP hm
  have h2 : (m : Int) ≤ (k : Int) := by omega
  go_enter Tryz.func30, Tryz.ntmps30
  go_wp2
  go_ret
  exact ⟨rfl, rfl⟩
 have hkl : k < l.length := by omega
 have hc : w.cell? ⟨g, k, none⟩ = some (.bool l[k]) := by
  rw [Blk.at h, List.getElem?_eq_getElem (by rw [boolC_len]; exact hkl)]
  simp [boolC]
 have hf := Blk.free h k
 have hgd : (l.take m).getD k true = l[k] := by
  rw [List.getD_eq_getElem?_getD, List.getElem?_take_of_lt (by omega), List.getElem?_eq_getElem hkl]
  rfl
 have e1 : ¬ ((k : Int) < 0 ∨ (((l.take m).length : Nat) : Int) ≤ (k : Int)) := by rw [List.length_take, Nat.min_eq_left hm]; omega
 have hlt : (k : Int) < (m : Int) := by omega
 have h00 : (0 : Int) ≤ (k : Int) := by omega
 cases hb : l[k]
 ·have hP : holdF (l.take m) (k : Int) = .ok ((l.take m).set k true) := by unfold holdF; rw [if_neg e1, Int.toNat_natCast, hgd, hb, if_neg (by decide)]
  have HQ := hid (show holdR l m (k : Int) w g = fun e w' => e = .returned (.int .i64 0) ∧ w' = w.setCell ⟨g, k, none⟩ (.bool true) by unfold holdR; rw [hP]; rfl)
  rw [HQ.out]
  rw [hb] at hc
  clear h HP HQ hP hgd e1 hb hkl h0 h1 hm
  go_enter Tryz.func30, Tryz.ntmps30
  go_wp2
  go_ret
  exact ⟨rfl, rfl⟩
 ·have hP : holdF (l.take m) (k : Int) = .error 4 := by unfold holdF; rw [if_neg e1, Int.toNat_natCast, hgd, hb, if_pos rfl]
  have HQ := hid (show holdR l m (k : Int) w g = fun e w' => e = .returned (.int .i64 (4 : Nat)) ∧ w' = w by unfold holdR; rw [hP])
  rw [HQ.out]
  rw [hb] at hc
  clear h HP HQ hP hgd e1 hb hkl h0 h1 hm
  go_enter Tryz.func30, Tryz.ntmps30
  go_wp2
  go_ret
  exact ⟨rfl, rfl⟩
end Go.Proofs.YtfcccfplmdjndaaGreat

/- spec: parts, walked. -/
namespace Go.Proofs.YtfcccfplmdjndaaGreat
set_option linter.unusedSimpArgs false
set_option linter.unusedVariables false
open Go.RowKit

theorem parts_len (t : NT) : t.parts.length = t.ks.length + t.fs.length + t.cs.length + (if t.k = 9 ∧ 0 ≤ t.el then 1 else 0) := by
 unfold NT.parts
 split <;> simp <;> omega
theorem parts_k (t : NT) {j : Nat} (h : j < t.ks.length) : t.parts[j]? = some t.ks[j] := by
 unfold NT.parts
 rw [List.getElem?_append_left (by simp; omega), List.getElem?_append_left (by simp; omega), List.getElem?_append_left h, List.getElem?_eq_getElem h]
theorem parts_f (t : NT) {j : Nat} (h : j < t.fs.length) : t.parts[t.ks.length + j]? = some t.fs[j].ty := by
 unfold NT.parts
 rw [List.getElem?_append_left (by simp; omega), List.getElem?_append_left (by simp; omega), List.getElem?_append_right (by omega)]
 simp [h]
theorem parts_c (t : NT) {j : Nat} (h : j < t.cs.length) : t.parts[t.ks.length + t.fs.length + j]? = some t.cs[j].ty := by
 unfold NT.parts
 rw [List.getElem?_append_left (by simp; omega), List.getElem?_append_right (by simp)]
 simp [h]
theorem parts_e (t : NT) (h : t.k = 9 ∧ 0 ≤ t.el) : t.parts[t.ks.length + t.fs.length + t.cs.length]? = some t.el := by
 unfold NT.parts
 rw [List.getElem?_append_right (by simp; omega), if_pos h, show t.ks.length + t.fs.length + t.cs.length - (t.ks ++ t.fs.map FT.ty ++ t.cs.map CT.ty).length = 0 by simp; omega]
 rfl
theorem NBox.chg {w w' : World} {g : Nat} {cs : Array Value} {x : NV} {B : Nat} (h : NBox w g cs x) (hc : Chg w w' (fun k => k < B)) (hg : ¬ g < B) : NBox w' g cs x :=
 ⟨(hc.block g (Array.getElem?_eq_some_iff.1 h.1).1 hg).trans h.1, h.2⟩
theorem NBox.at_ {w w' : World} {g : Nat} {cs : Array Value} {x : NV} (h : NBox w g cs x) (hb : w'.heap[g]? = w.heap[g]?) : NBox w' g cs x := ⟨hb.trans h.1, h.2⟩
structure Fits3 (x : NV) : Prop where
 k : x.K.n ≤ 1048576
 f : x.F.n ≤ 1048576
 c : x.C.n ≤ 1048576
theorem Fits.three {x : NV} (h : Fits x) : Fits3 x := ⟨h.k, h.f, h.c⟩
theorem row_new (w : World) (t : TypeId) (zs cs : Array Value) : Below w.heap.size w ((w.alloc (.cells zs t)).setRow w.heap.size cs) :=
 below_row ((Below.refl _ _).alloc (Nat.le_refl _) _) (Nat.le_refl _) cs
theorem ft_size (f : FT) : (Tryz.prog.info? 64).map (·.size) = some f.cells.toArray.size := by rw [show f.cells.toArray.size = 5 from rfl]; kernel_rfl
theorem ct_size (f : CT) : (Tryz.prog.info? 121).map (·.size) = some f.cells.toArray.size := by rw [show f.cells.toArray.size = 2 from rfl]; kernel_rfl
theorem ft_one (f : FT) : f.cells.toArray.all (·.oneCell') = true := by simp [FT.cells, Value.oneCell']
theorem ct_one (f : CT) : f.cells.toArray.all (·.oneCell') = true := by simp [CT.cells, Value.oneCell']
set_option maxRecDepth 100000 in
set_option maxHeartbeats 4000000 in
theorem parts_any {F : Nat} {caps : Array Value} {Inv : Nat → World → Prop} {Stp : World → Prop} {P : Nat → Prop} (x : NV) (w : World) (hH : Hands F caps x.t.parts w.heap.size Inv Stp) (hR : ∀ i W, Inv i W → NodeOk W P x) (h0 : Inv 0 w) (hfit : Fits3 x) :
  Calls Tryz.prog 34 #[x.val, .func (.func F) #[] caps] w (PartsR x.t.parts.length Inv Stp) := by
 obtain ⟨cs, hv, hbx⟩ := nbox x
 obtain ⟨hA, hN⟩ := hbx w
 clear hbx
 obtain ⟨R, hRR⟩ : ∃ R, R = PartsR x.t.parts.length Inv Stp := ⟨_, rfl⟩
 have HRR := hid hRR
 have HI := hid (hH.keep 0 w _ h0 hA)
 have HCh := hid (show w.heap.size < (w.alloc (.cells cs 54)).heap.size by simp)
 have HN := hid hN
 have hent := hH.ent
 have hkb := hfit.k
 have hfb := hfit.f
 have hcb := hfit.c
 have HFit := hid hfit
 clear hfit
 have HK := hid (hR 0 w h0).kn
 have HF := hid (hR 0 w h0).fn
 have HC0 := hid (hR 0 w h0).cn
 have x11 := hN.cells.2.2.2.2.2.2.2.2.2.2.2.1
 rw [hv, ← hRR]
 clear hA hN hv hRR h0
 rw [show PartsR x.t.parts.length Inv Stp = PartsR x.t.parts.length Inv Stp from rfl] at HRR
 go_enter Tryz.func34, Tryz.ntmps34
 go_upto_region 1 with (fail)
 generalize w.alloc (.cells cs 54) = w1 at *
 go_wp2_with fail
 go_loopw [14] (fun i wr => ∃ j : Nat, j ≤ x.K.n ∧ i = .int .i64 j ∧ Hid (Inv j wr) ∧ Hid (w.heap.size < wr.heap.size) ∧ Hid (NBox wr w.heap.size cs x)) (fun i _ => x.K.n - (intOf i).toNat)
 case atStart => exact ⟨0, by omega, rfl, HI, HCh, HN⟩
 case round =>
  clear HI HCh HN x11
  obtain ⟨j, hj, rfl, HI, HCh, HN⟩ := hrel
  by_cases hlt : j < x.K.n
  ·have hlt' : (j : Int) < (x.K.n : Int) := by omega
   have hO := hR _ wr HI.out
   have hjl : j < x.t.ks.length := by rw [← hO.kn]; exact hlt
   obtain ⟨b, o, hA, hbl, hPb, hc⟩ := hO.k.at (by rw [intC_len]; omega)
   have hcell : wr.cell? ⟨b, o + j, none⟩ = some (.int .i64 x.t.ks[j]) := by
    rw [hc j (by rw [intC_len]; exact hjl)]
    simp [intC, hjl]
   have hpj := List.getElem?_eq_some_iff.1 (parts_k x.t hjl)
   obtain ⟨hp1, hp2⟩ := hpj
   have HC := hid (hH.call j hp1 wr HI.out HCh.out)
   rw [hp2] at HC
   generalize x.t.ks[j] = p at *
   clear hc hO hp1 hp2 hbl hPb hjl
   rw [hA]
   go_wp2_with fail
   refine HC.out.mono ?_
   rintro e w5 ⟨bb, rfl, hch, ht, hf⟩
   have HCh5 := hid (Nat.lt_of_lt_of_le HCh.out hch.2)
   have HN5 := hid (HN.out.at_ hch.1)
   cases bb with
   | true =>
    have HI5 := hid (ht rfl)
    clear ht hf hch HC HI HCh HN hcell
    go_wp2
    go_roundw
    case rel => exact ⟨j + 1, by omega, by go_num, HI5, HCh5, HN5⟩
    case measure => simp [intOf]; omega
   | false =>
    have HS5 := hid (hf rfl)
    clear ht hf hch HC HI HCh HN hcell
    go_wp2
    show R (.returned (.bool false)) w5
    rw [HRR.out]; exact ⟨false, rfl, (fun h => by cases h), (fun _ => HS5.out)⟩
  ·obtain rfl : j = x.K.n := by omega
   rw [HK.out] at HI
   have x13 := HN.out.cells.2.2.2.2.2.2.2.2.2.2.2.2.2.1
   clear hlt hj
   go_wp2_with fail
   go_loopw [26] (fun i wr => ∃ j : Nat, j ≤ x.F.n ∧ i = .int .i64 j ∧ Hid (Inv (x.t.ks.length + j) wr) ∧ Hid (w.heap.size < wr.heap.size) ∧ Hid (NBox wr w.heap.size cs x)) (fun i _ => x.F.n - (intOf i).toNat)
   case atStart => exact ⟨0, by omega, rfl, HI, HCh, HN⟩
   case round =>
    clear HI HCh HN x13
    obtain ⟨j, hj, rfl, HI, HCh, HN⟩ := hrel
    by_cases hlt : j < x.F.n
    ·have hlt' : (j : Int) < (x.F.n : Int) := by omega
     have hO := hR _ wr HI.out
     have hjl : j < x.t.fs.length := by rw [← hO.fn]; exact hlt
     obtain ⟨b, o, hA, hbl, hPb, hc⟩ := hO.f.at (by rw [flatF_len]; omega)
     obtain ⟨f, hf0⟩ : ∃ f, f = x.t.fs[j] := ⟨_, rfl⟩
     have hcell : ∀ i, i < 5 → wr.cell? ⟨b, o + j * 5 + i, none⟩ = f.cells[i]? := fun i hi => by
      rw [Nat.add_assoc, hc (j * 5 + i) (by rw [flatF_len]; omega), hf0]
      exact flat_get (f := FT.cells) (m := 5) (fun _ => rfl) x.t.fs j i hjl hi
     have y0 := hcell 0 (by decide)
     have y1 := hcell 1 (by decide)
     have y2 := hcell 2 (by decide)
     have y3 := hcell 3 (by decide)
     have y4 := hcell 4 (by decide)
     simp only [FT.cells, List.getElem?_cons_succ, List.getElem?_cons_zero, Nat.add_zero] at y0 y1 y2 y3 y4
     have hpj : ∃ h, x.t.parts[x.t.ks.length + j]'h = f.ty := List.getElem?_eq_some_iff.1 (by rw [hf0]; exact parts_f x.t hjl)
     obtain ⟨hp1, hp2⟩ := hpj
     have hbx := row_new wr 64 #[.string ⟨#[]⟩, .int .i64 0, .int .i64 0, .string ⟨#[]⟩, .string ⟨#[]⟩] f.cells.toArray
     have HI4 := hid (hH.keep _ wr _ HI.out hbx)
     have HCh4 := hid (Nat.lt_of_lt_of_le HCh.out hbx.size)
     have HN4 := hid (HN.out.keep hbx)
     have HBx := hid (show Blk ((wr.alloc (.cells #[.string ⟨#[]⟩, .int .i64 0, .int .i64 0, .string ⟨#[]⟩, .string ⟨#[]⟩] 64)).setRow wr.heap.size f.cells.toArray) wr.heap.size 64 f.cells from setRow_heap _ _ _ _ _ (0, 0) (heap_alloc_new wr _))
     have HC := hid (fun W (h : Inv (x.t.ks.length + j) W) (hb : w.heap.size < W.heap.size) => hH.call (x.t.ks.length + j) hp1 W h hb)
     rw [hp2] at HC
     have HSz := hid (ft_size f)
     have HOne := hid (ft_one f)
     clear hc hO hp1 hp2 hbl hPb hjl hcell hf0 hbx HI HCh HN
     rw [hA]
     go_wp2_with ((with_reducible refine wpList_store_row rfl 64 _ _ rfl wr.heap.size f.cells.toArray ?_ ?_ 64 #[.string ⟨#[]⟩, .int .i64 0, .int .i64 0, .string ⟨#[]⟩, .string ⟨#[]⟩] (heap_alloc_new wr _) HSz.out ?_ HOne.out ?_); exact rfl; exact rfl; exact rfl; generalize (wr.alloc (.cells #[.string ⟨#[]⟩, .int .i64 0, .int .i64 0, .string ⟨#[]⟩, .string ⟨#[]⟩] 64)).setRow wr.heap.size f.cells.toArray = w4 at *; have z1 := Blk.at HBx.out 1; simp only [FT.cells, List.getElem?_cons_succ, List.getElem?_cons_zero] at z1)
     refine (HC.out _ HI4.out HCh4.out).mono ?_
     rintro e w5 ⟨bb, rfl, hch, ht, hf⟩
     have HCh5 := hid (Nat.lt_of_lt_of_le HCh4.out hch.2)
     have HN5 := hid (HN4.out.at_ hch.1)
     cases bb with
     | true =>
      have HI5 := hid (ht rfl)
      clear ht hf hch HC HI4 HCh4 HN4 y0 y1 y2 y3 y4 z1
      go_wp2
      go_roundw
      case rel => exact ⟨j + 1, by omega, by go_num, HI5, HCh5, HN5⟩
      case measure => simp [intOf]; omega
     | false =>
      have HS5 := hid (hf rfl)
      clear ht hf hch HC HI4 HCh4 HN4 y0 y1 y2 y3 y4 z1
      go_wp2
      show R (.returned (.bool false)) w5
      rw [HRR.out]; exact ⟨false, rfl, (fun h => by cases h), (fun _ => HS5.out)⟩
    ·obtain rfl : j = x.F.n := by omega
     rw [HF.out] at HI
     have x16 := HN.out.cells.2.2.2.2.2.2.2.2.2.2.2.2.2.2.2.2.1
     clear hlt hj
     go_wp2_with fail
     go_loopw [39] (fun i wr => ∃ j : Nat, j ≤ x.C.n ∧ i = .int .i64 j ∧ Hid (Inv (x.t.ks.length + x.t.fs.length + j) wr) ∧ Hid (w.heap.size < wr.heap.size) ∧ Hid (NBox wr w.heap.size cs x)) (fun i _ => x.C.n - (intOf i).toNat)
     case atStart => exact ⟨0, by omega, rfl, HI, HCh, HN⟩
     case round =>
      clear HI HCh HN x16
      obtain ⟨j, hj, rfl, HI, HCh, HN⟩ := hrel
      by_cases hlt : j < x.C.n
      ·have hlt' : (j : Int) < (x.C.n : Int) := by omega
       have hO := hR _ wr HI.out
       have hjl : j < x.t.cs.length := by rw [← hO.cn]; exact hlt
       obtain ⟨b, o, hA, hbl, hPb, hc⟩ := hO.c.at (by rw [flatC_len]; omega)
       obtain ⟨f, hf0⟩ : ∃ f, f = x.t.cs[j] := ⟨_, rfl⟩
       have hcell : ∀ i, i < 2 → wr.cell? ⟨b, o + j * 2 + i, none⟩ = f.cells[i]? := fun i hi => by
        rw [Nat.add_assoc, hc (j * 2 + i) (by rw [flatC_len]; omega), hf0]
        exact flat_get (f := CT.cells) (m := 2) (fun _ => rfl) x.t.cs j i hjl hi
       have y0 := hcell 0 (by decide)
       have y1 := hcell 1 (by decide)
       simp only [CT.cells, List.getElem?_cons_succ, List.getElem?_cons_zero, Nat.add_zero] at y0 y1
       have hpj : ∃ h, x.t.parts[x.t.ks.length + x.t.fs.length + j]'h = f.ty := List.getElem?_eq_some_iff.1 (by rw [hf0]; exact parts_c x.t hjl)
       obtain ⟨hp1, hp2⟩ := hpj
       have hbx := row_new wr 121 #[.int .u64 0, .int .i64 0] f.cells.toArray
       have HI4 := hid (hH.keep _ wr _ HI.out hbx)
       have HCh4 := hid (Nat.lt_of_lt_of_le HCh.out hbx.size)
       have HN4 := hid (HN.out.keep hbx)
       have HBx := hid (show Blk ((wr.alloc (.cells #[.int .u64 0, .int .i64 0] 121)).setRow wr.heap.size f.cells.toArray) wr.heap.size 121 f.cells from setRow_heap _ _ _ _ _ (0, 0) (heap_alloc_new wr _))
       have HC := hid (fun W (h : Inv (x.t.ks.length + x.t.fs.length + j) W) (hb : w.heap.size < W.heap.size) => hH.call (x.t.ks.length + x.t.fs.length + j) hp1 W h hb)
       rw [hp2] at HC
       have HSz := hid (ct_size f)
       have HOne := hid (ct_one f)
       clear hc hO hp1 hp2 hbl hPb hjl hcell hf0 hbx HI HCh HN
       rw [hA]
       go_wp2_with ((with_reducible refine wpList_store_row rfl 121 _ _ rfl wr.heap.size f.cells.toArray ?_ ?_ 121 #[.int .u64 0, .int .i64 0] (heap_alloc_new wr _) HSz.out ?_ HOne.out ?_); exact rfl; exact rfl; exact rfl; generalize (wr.alloc (.cells #[.int .u64 0, .int .i64 0] 121)).setRow wr.heap.size f.cells.toArray = w4 at *; have z1 := Blk.at HBx.out 1; simp only [CT.cells, List.getElem?_cons_succ, List.getElem?_cons_zero] at z1)
       refine (HC.out _ HI4.out HCh4.out).mono ?_
       rintro e w5 ⟨bb, rfl, hch, ht, hf⟩
       have HCh5 := hid (Nat.lt_of_lt_of_le HCh4.out hch.2)
       have HN5 := hid (HN4.out.at_ hch.1)
       cases bb with
       | true =>
        have HI5 := hid (ht rfl)
        clear ht hf hch HC HI4 HCh4 HN4 y0 y1 z1
        go_wp2
        go_roundw
        case rel => exact ⟨j + 1, by omega, by go_num, HI5, HCh5, HN5⟩
        case measure => simp [intOf]; omega
       | false =>
        have HS5 := hid (hf rfl)
        clear ht hf hch HC HI4 HCh4 HN4 y0 y1 z1
        go_wp2
        show R (.returned (.bool false)) w5
        rw [HRR.out]; exact ⟨false, rfl, (fun h => by cases h), (fun _ => HS5.out)⟩
      ·obtain rfl : j = x.C.n := by omega
       rw [HC0.out] at HI
       obtain ⟨x0, _, _, _, _, _, _, _, _, _, _, _, _, _, _, _, _, x17⟩ := HN.out.cells
       clear hlt hj
       by_cases h9 : x.t.k = 9
       ·rw [h9] at x0
        by_cases hel : 0 ≤ x.t.el
        ·have hel' : ¬ x.t.el < 0 := by omega
         obtain ⟨hp1, hp2⟩ := List.getElem?_eq_some_iff.1 (parts_e x.t ⟨h9, hel⟩)
         have HC := hid (hH.call _ hp1 wr HI.out HCh.out)
         rw [hp2] at HC
         have HL := hid (show x.t.parts.length = x.t.ks.length + x.t.fs.length + x.t.cs.length + 1 by rw [parts_len, if_pos ⟨h9, hel⟩])
         clear hp1 hp2 h9 hel
         generalize x.t.el = el at *
         go_wp2_with fail
         refine HC.out.mono ?_
         rintro e w5 ⟨bb, rfl, hch, ht, hf⟩
         have HE := hid (show PartsR x.t.parts.length Inv Stp (.returned (.bool bb)) w5 from ⟨bb, rfl, fun h => by rw [HL.out]; exact ht h, hf⟩)
         clear ht hf hch HC HI HCh HN
         go_wp2
         show R (.returned (.bool bb)) w5
         rw [HRR.out]
         exact HE.out
        ·have hel' : x.t.el < 0 := by omega
         have HE := hid (show PartsR x.t.parts.length Inv Stp (.returned (.bool true)) wr from ⟨true, rfl, fun _ => by rw [parts_len, if_neg (fun h => hel h.2)]; exact HI.out, fun h => by cases h⟩)
         clear h9 hel
         generalize x.t.el = el at *
         go_wp2
         show R (.returned (.bool true)) wr
         rw [HRR.out]
         exact HE.out
       ·have HE := hid (show PartsR x.t.parts.length Inv Stp (.returned (.bool true)) wr from ⟨true, rfl, fun _ => by rw [parts_len, if_neg (fun h => h9 h.1)]; exact HI.out, fun h => by cases h⟩)
        have hk9 : (x.t.k == 9) = false := by simpa using h9
        generalize x.t.k = k at *
        go_wp2
        show R (.returned (.bool true)) wr
        rw [HRR.out]
        exact HE.out

end Go.Proofs.YtfcccfplmdjndaaGreat

/- spec: slices.Contains of bools; Kids. -/
namespace Go.Proofs.YtfcccfplmdjndaaGreat
set_option linter.unusedSimpArgs false
set_option linter.unusedVariables false
open Go.RowKit

set_option maxRecDepth 100000 in
set_option maxHeartbeats 1000000 in
theorem index_any (l : List Bool) (c g : Nat) (hl : l.length ≤ 1048576) (w : World) (h : Blk w g 4 (boolC l)) : Calls Tryz.prog 70 #[.slice (some ⟨g, 0, none⟩) l.length c, .bool false] w fun e w' => ∃ r : Int, e = .returned (.int .i64 r) ∧ w' = w ∧ decide (0 ≤ r) = l.any (fun b => !b) := by
 have HB := hid h
 obtain ⟨n, hn⟩ : ∃ n, n = l.length := ⟨_, rfl⟩
 rw [← hn]
 rw [← hn] at hl
 have HN := hid hn
 clear h hn
 go_enter Tryz.func70, Tryz.ntmps70
 go_wp2_with fail
 go_loopw [8] (fun i wr => ∃ j : Nat, j ≤ n ∧ i = .int .i64 j ∧ wr = w ∧ Hid (∀ k (hk : k < l.length), k < j → l[k] = true)) (fun i _ => n - (intOf i).toNat)
 case atStart => exact ⟨0, by omega, rfl, rfl, hid (fun k hk h => absurd h (by omega))⟩
 case round =>
  obtain ⟨j, hj, rfl, rfl, HZ⟩ := hrel
  by_cases hlt : j < n
  ·have hlt' : (j : Int) < (n : Int) := by omega
   have hjl : j < l.length := by rw [← HN.out]; exact hlt
   have hc : wr.cell? ⟨g, j, none⟩ = some (.bool l[j]) := by
    rw [Blk.at HB.out, List.getElem?_eq_getElem (by rw [boolC_len]; exact hjl)]
    simp [boolC]
   have HL := hid (show l[j] = false → l.any (fun b => !b) = true from fun h => List.any_eq_true.2 ⟨l[j], List.getElem_mem _, by rw [h]; rfl⟩)
   have HZ2 := hid (show l[j] = true → ∀ k (hk : k < l.length), k < j + 1 → l[k] = true from fun h k hk hkj => by
    by_cases e : k = j
    ·subst e; exact h
    ·exact HZ.out k hk (by omega))
   generalize l[j] = b at *
   clear hjl
   cases b with
   | true =>
    go_wp2
    go_roundw
    case rel => exact ⟨j + 1, by omega, by go_num, by first | rfl | trivial, hid (HZ2.out (by first | rfl | trivial))⟩
    case measure => simp [intOf]; omega
   | false =>
    have h0 : (0 : Int) ≤ (j : Int) := by omega
    go_wp2
    go_ret
    exact ⟨_, rfl, rfl, by rw [HL.out (by first | rfl | trivial)]; simp⟩
  ·obtain rfl : j = n := by omega
   have HA := hid (show l.any (fun b => !b) = false from by
    rw [List.any_eq_false]
    intro b hb
    obtain ⟨k, hk, rfl⟩ := List.getElem_of_mem hb
    rw [HZ.out k hk (by rw [HN.out]; exact hk)]
    simp)
   go_wp2
   go_ret
   exact ⟨_, rfl, rfl, by rw [HA.out]; rfl⟩
set_option maxRecDepth 100000 in
theorem contains_any (l : List Bool) (c g : Nat) (hl : l.length ≤ 1048576) (w : World) (h : Blk w g 4 (boolC l)) : Calls Tryz.prog 31 #[.slice (some ⟨g, 0, none⟩) l.length c, .bool false] w fun e w' => e = .returned (.bool (l.any (fun b => !b))) ∧ w' = w := by
 have HI := hid (index_any l c g hl w h)
 obtain ⟨R, hR⟩ : ∃ R, R = l.any (fun b => !b) := ⟨_, rfl⟩
 rw [← hR] at HI ⊢
 clear hR h
 go_enter Tryz.func31, Tryz.ntmps31
 go_wp2_with fail
 refine HI.out.mono ?_
 rintro e w2 ⟨r, rfl, rfl, hr⟩
 have HR := hid hr
 clear hr
 go_wp2
 go_ret
 exact ⟨ret_bool (by rw [← HR.out]), rfl⟩
structure KiI (pa base : Nat) (ps : List Int) (w3 : World) (i : Nat) (W : World) (v : Value) : Prop where
 bo : Blk W pa 49 [v]
 row : W.ownsRow base 3 1 v i (intC (ps.take i))
 ch : Chg w3 W (fun k => k = pa)
 ne : v.ownBlock ≠ some base
 i : i ≤ ps.length
set_option maxRecDepth 100000 in
set_option maxHeartbeats 1000000 in
theorem k1_any (pa base : Nat) (p : Int) (n : Nat) (xs : List Value) (v : Value) (W : World) (hn : n ≤ 1048576) (hb : base ≤ W.heap.size) (ho : Blk W pa 49 [v]) (hr : W.ownsRow base 3 1 v n xs) :
  Calls Tryz.prog 95 #[.int .i64 p, .pointer (some ⟨pa, 0, none⟩)] W fun e w' => e = .returned (.bool true) ∧ ∃ v' : Value, Blk w' pa 49 [v'] ∧ w'.ownsRow base 3 1 v' (n + 1) (xs ++ [.int .i64 p]) ∧ Chg W w' (fun k => k = pa ∨ v.ownBlock = some k) ∧ (v'.ownBlock = v.ownBlock ∨ ∃ k, v'.ownBlock = some k ∧ W.heap.size < k) := by
 obtain ⟨A, cc, rfl⟩ := owns_shape hr
 have hb1 := (Below.refl W.heap.size W).alloc (Nat.le_refl _) (.cells #[.int .i64 p] 3)
 have a0 := Blk.at ho 0
 simp only [List.getElem?_cons_zero] at a0
 have hne := own_neN hr ho (by decide)
 have hsz : (W.alloc (.cells #[.int .i64 p] 3)).heap.size = W.heap.size + 1 := by simp
 have hblk := owns_block hr
 have hr2 := owns_chg hr (Chg.of_below hb1 (fun _ => False)) (fun _ _ h => h)
 have ho2 := ho.keep hb1
 have hcn := cell_one_new W (.int .i64 p) 3
 have hbs : base ≤ (W.alloc (.cells #[.int .i64 p] 3)).heap.size := by omega
 obtain ⟨i0, hi0, hz0, hz1, hz2⟩ := info_parts info_int
 have HX := hid (And.intro hb1 (And.intro hsz (And.intro hne hblk)))
 have HR2 := hid hr2
 have HO2 := hid ho2
 have HCn := hid hcn
 clear hb1 hr2 ho2 hcn hne hblk hsz ho hr
 go_enter Tryz.func95, Tryz.ntmps95
 go_wp2_with (refine wpList_append_own_at _ rfl _ _ 49 rfl base 3 i0 (.int .i64 0) 1 8 Tryz.underlying49 hi0 hz0 hz1 hz2 rfl (by decide) _ n xs rfl HR2.out ⟨W.heap.size, 0, none⟩ 1 1 [.int .i64 p] rfl rfl HCn.out (by simp [Value.oneCell']) (by unfold maxLen; omega) (by omega) hbs ?_; intro u7 w7 hown7 hgrow7 _ hat7; obtain ⟨A7, c7, rfl⟩ := owns_shape hown7; have H7 := hid (And.intro hown7 (And.intro hgrow7 hat7)); have hb7 := HO2.out.grown hgrow7 (fun e => HX.out.2.2.1 e.symm); have f7 := Blk.free hb7 0; have z7 := Blk.at hb7 0; simp only [List.getElem?_cons_zero] at z7; have HB7 := hid (hb7.put 0 (.slice A7 (n + 1) c7)); clear hown7 hgrow7 hat7 hb7)
 go_ret
 obtain ⟨hown7, hgrow8, hat8⟩ := H7.out
 have hat7 : (Value.slice A7 (n + 1) c7).ownBlock = (Value.slice A n cc).ownBlock ∨ (Value.slice A7 (n + 1) c7).ownBlock = some (W.alloc (.cells #[.int .i64 p] 3)).heap.size := hat8
 have hgrow7 : (W.alloc (.cells #[.int .i64 p] 3)).grownBy w7 (Value.slice A n cc).ownBlock := hgrow8
 obtain ⟨hb1, hsz, hne, hblk⟩ := HX.out
 have hne7 : ∀ k, (Value.slice A7 (n + 1) c7).ownBlock = some k → ¬ k = pa := fun k hk e => by
  rcases hat7 with h | h
  ·rw [h] at hk; exact hne (by rw [hk, e])
  ·rw [h] at hk
   injection hk with hk
   have := (Blk.lt HO2.out)
   omega
 refine ⟨rfl, .slice A7 (n + 1) c7, HB7.out, owns_chg hown7 ((Chg.refl w7 (fun k => k = pa)).set pa 0 rfl _) hne7, ?_, ?_⟩
 ·have h1 : Chg W (W.alloc (.cells #[.int .i64 p] 3)) (fun k => k = pa ∨ (Value.slice A n cc).ownBlock = some k) := Chg.of_below hb1 _
  have h2 : Chg (W.alloc (.cells #[.int .i64 p] 3)) w7 (fun k => k = pa ∨ (Value.slice A n cc).ownBlock = some k) := (Chg.of_grown hgrow7).more (fun k _ hk => .inr hk)
  exact (h1.trans h2).set pa 0 (.inl rfl) _
 ·rcases hat7 with h | h
  ·exact .inl h
  ·exact .inr ⟨_, h, by omega⟩
theorem ki_hands {pa : Nat} (ps : List Int) (hps : ps.length ≤ 1048576) (w3 : World) (hpa : pa < w3.heap.size) :
  Hands 95 #[.pointer (some ⟨pa, 0, none⟩)] ps w3.heap.size (fun i W => ∃ v, KiI pa w3.heap.size ps w3 i W v) (fun _ => False) where
 ent := enters_of Tryz.func95 (by kernel_rfl) rfl
 call := by
  rintro i hi W ⟨v, hI⟩ hB
  have h := k1_any pa w3.heap.size ps[i] i _ v W (by omega) hI.ch.size hI.bo hI.row
  refine h.mono ?_
  rintro e W' ⟨he, v', hb', hr', hc, hat⟩
  have htk : ps.take (i + 1) = ps.take i ++ [ps[i]] := List.take_succ_eq_append_getElem hi
  have hown := owns_block hI.row
  refine ⟨true, he, ⟨hc.block _ hB ?_, hc.size⟩, (fun _ => ⟨v', hb', ?_, ?_, ?_, by omega⟩), fun h => by cases h⟩
  ·rintro (e | e)
   ·omega
   ·exact hI.ne e
  ·rw [htk]
   have : intC (ps.take i ++ [ps[i]]) = intC (ps.take i) ++ [.int .i64 ps[i]] := by unfold intC; rw [List.map_append]; rfl
   rw [this]
   exact hr'
  ·have h1 := hI.ch
   refine ⟨hc.os.trans h1.os, hc.tape.trans h1.tape, hc.output.trans h1.output, Nat.le_trans h1.size hc.size, fun k hk hn => (hc.block k (Nat.lt_of_lt_of_le hk h1.size) ?_).trans (h1.block k hk hn)⟩
   rintro (e | e)
   ·exact hn e
   ·have := (hown k e).1
    omega
  ·rcases hat with h | ⟨k, h, hk⟩
   ·rw [h]; exact hI.ne
   ·rw [h]
    intro e
    injection e with e
    omega
 keep := by
  rintro i W W' ⟨v, hI⟩ hc
  exact ⟨v, hI.bo.keep hc, owns_keep hI.row (fun b _ hl => hc.block b hl), hI.ch.trans (Chg.of_below hc _), hI.ne, hI.i⟩
set_option maxRecDepth 100000 in
set_option maxHeartbeats 2000000 in
theorem Kids_any {P : Nat → Prop} (x : NV) (w : World) (hO : NodeOk w P x) (hf : Fits3 x) (hps : x.t.parts.length ≤ 1048576) :
  Calls Tryz.prog 62 #[x.val] w fun e w' => ∃ A c, e = .returned (.slice A x.t.parts.length c) ∧ Below w.heap.size w w' ∧ w'.ownsRow w.heap.size 3 1 (.slice A x.t.parts.length c) x.t.parts.length (intC x.t.parts) := by
 obtain ⟨cs, hv, hbx⟩ := nbox x
 obtain ⟨R, hR⟩ : ∃ R : Ending → World → Prop, R = fun e w' => ∃ A c, e = .returned (.slice A x.t.parts.length c) ∧ Below w.heap.size w w' ∧ w'.ownsRow w.heap.size 3 1 (.slice A x.t.parts.length c) x.t.parts.length (intC x.t.parts) := ⟨_, rfl⟩
 rw [hv, ← hR]
 have HR := hid hR
 obtain ⟨hA, hN⟩ := hbx w
 have hb2 := (Below.refl (w.alloc (.cells cs 54)).heap.size _).alloc (Nat.le_refl _) (.cells #[.slice none 0 0] 49)
 have hs1 : (w.alloc (.cells cs 54)).heap.size = w.heap.size + 1 := by simp
 have hs2 : ((w.alloc (.cells cs 54)).alloc (.cells #[.slice none 0 0] 49)).heap.size = w.heap.size + 2 := by simp
 have hbo := Blk.fresh (w.alloc (.cells cs 54)) 49 [.slice none 0 0]
 rw [hs1] at hbo
 have HQ := hid (And.intro (hA.trans (hb2.mono hA.size)) (And.intro hbo (And.intro (hN.keep hb2) hs2)))
 have HO := hid hO
 have HF := hid hf
 have HPs := hid hps
 clear hbx hR hA hN hb2 hs1 hs2 hbo hO hf hps
 go_enter Tryz.func62, Tryz.ntmps62
 go_upto_region 2 with (fail)
 change Code.wp _ _ _ _ ((w.alloc (.cells cs 54)).alloc (.cells #[.slice none 0 0] 49))
 generalize (w.alloc (.cells cs 54)).alloc (.cells #[.slice none 0 0] 49) = w3 at *
 have HPt := hid (parts_any (F := 95) (caps := #[.pointer (some ⟨w.heap.size + 1, 0, none⟩)]) (P := fun b => P b ∧ b < w.heap.size) x w3
  (ki_hands x.t.parts HPs.out w3 (by have := HQ.out.2.2.2; omega))
  (fun i W ⟨v, hI⟩ => (HO.out.mono (w' := w3) (Q := fun b => P b ∧ b < w.heap.size) (fun b _ hl => HQ.out.1.block b hl) HQ.out.1.size (fun b hp hl => ⟨hp, hl⟩)).mono (fun b hp hl => hI.ch.block b hl (by have := hp.2; omega)) hI.ch.size (fun b hp _ => hp))
  ⟨.slice none 0 0, HQ.out.2.1, ⟨rfl, .inl ⟨rfl, rfl⟩⟩, Chg.refl _ _, by simp [Value.ownBlock], Nat.zero_le _⟩ HF.out)
 rw [hv] at HPt
 go_wp2_with (first
  | ((with_reducible refine wpList_load_node _ rfl HQ.out.2.2.1 ?_ ?_ ?_); exact rfl; exact rfl)
  | (go_at_call 34; (with_reducible refine HPt.out.mono ?_); rintro e w4 ⟨b, rfl, ht, hs⟩; obtain rfl : b = true := (by cases b; exact (hs rfl).elim; rfl); obtain ⟨v, hI⟩ := ht rfl; obtain ⟨A, cc, rfl⟩ := owns_shape hI.row; have z0 := Blk.at hI.bo 0; simp only [List.getElem?_cons_zero] at z0; have HI := hid hI; clear hI ht hs HPt))
 show R (.returned (.slice A x.t.parts.length cc)) w4
 rw [HR.out]
 have hI := HI.out
 have hrow := hI.row
 rw [List.take_length] at hrow
 have hb := HQ.out.1
 exact ⟨A, cc, rfl, ⟨hI.ch.os.trans hb.os, hI.ch.tape.trans hb.tape, hI.ch.output.trans hb.output, Nat.le_trans hb.size hI.ch.size, fun k hk => (hI.ch.block k (Nat.lt_of_lt_of_le hk hb.size) (by omega)).trans (hb.block k hk)⟩, owns_base hrow hb.size⟩
end Go.Proofs.YtfcccfplmdjndaaGreat
