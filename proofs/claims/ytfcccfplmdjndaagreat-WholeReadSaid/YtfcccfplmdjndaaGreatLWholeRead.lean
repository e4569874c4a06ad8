/- parse: the law ParseTokens, walked. -/
import Derived.Test.YtfcccfplmdjndaaGreatPaEw
import Derived.Test.YtfcccfplmdjndaaGreatInv
import Derived.Test.YtfcccfplmdjndaaGreatSpSa
import Derived.Test.YtfcccfplmdjndaaGreatLxCx
import Derived.Test.YtfcccfplmdjndaaGreatSpCh
import Derived.Test.YtfcccfplmdjndaaGreatSpEe
import Derived.Test.YtfcccfplmdjndaaGreatSpEg
import Derived.Test.YtfcccfplmdjndaaGreatSpW
import Derived.Test.YtfcccfplmdjndaaGreatSpX
import Derived.Test.YtfcccfplmdjndaaGreatPaRow
import Derived.ChangeMaps5
import Derived.Lib.SmallJoins
namespace Go.Proofs.YtfcccfplmdjndaaGreat
set_option linter.unusedSimpArgs false
set_option linter.unusedVariables false
open Go.RowKit

theorem alike_strip {a b : List Tk} (h : Alike a b) : stripT a = stripT b := h
/-- What Parse answers, by the reader's end alone. -/
def PsE (r : RS) (w : World) (e : Ending) (w' : World) : Prop := Below w.heap.size w w' ∧ ((r.fc ≠ 0 ∧ ∃ p : Int, e = .returned (.tuple #[.agg #[.slice none 0 0, .slice none 0 0], .agg #[.int .i64 (r.fc : Int), .int .i64 p]])) ∨ (r.fc = 0 ∧ ∃ s' : SpV, e = .returned (.tuple #[s'.val, .agg #[.int .i64 0, .int .i64 0]]) ∧ s'.ds = r.ds ∧ s'.ts = r.ns ∧ SpecOwn w' w.heap.size s' ∧ ckS s'.vs s'.ds = 0 ∧ (∀ v ∈ s'.vs, Fits v)))
theorem parse_end (s : ByteArray) {ts : List Tk} (hs : scanT s.data.toList = .ok ts) (w : World) : Calls Tryz.prog 8 #[.string s] w (PsE (parseL (stripT ts)) w) := by
 refine (parse_ever s w).mono ?_
 rintro e w' ⟨hb, h⟩
 rw [hs] at h
 refine ⟨hb, ?_⟩
 simp only at h
 by_cases hf : (parseL (stripT ts)).fc = 0
 ·rw [if_neg (by omega)] at h
  obtain ⟨s', h1, h2, h3, h4, h5, _, _, _, h6, _⟩ := h
  exact .inr ⟨hf, s', h1, h2, h3, h4, h6, h5⟩
 ·rw [if_pos hf] at h
  exact .inl ⟨hf, _, h⟩
end Go.Proofs.YtfcccfplmdjndaaGreat

/- The law WholeRead: its closure, that counts types as they are met. -/
namespace Go.Proofs.YtfcccfplmdjndaaGreat
set_option linter.unusedSimpArgs false
set_option linter.unusedVariables false
open Go.RowKit

/-- How many have been met. -/
def YM (cb : Nat) (sg : List Int) (W : World) : Prop := Blk W cb 3 [.int .i64 (sg.length : Int)]
theorem own_met {cb : Nat} {sg : List Int} {W : World} (h : YM cb sg W) (k : Nat) : Own cb W k ↔ k = cb := by
 have x := Blk.at (show Blk W cb 3 [.int .i64 (sg.length : Int)] from h) 0
 simp only [List.getElem?_cons_zero] at x
 constructor
 ·rintro (e | ⟨v, hv, e⟩)
  ·exact e
  ·rw [x] at hv
   injection hv with hv
   subst hv
   cases e
 ·exact .inl
theorem yields_met (cb : Nat) : Yields 14 #[.pointer (some ⟨cb, 0, none⟩)] cb (fun _ => true) (YM cb) where
 ent := enters_of Tryz.func14 (by kernel_rfl) rfl
 lt := fun sg W h => Blk.lt (show Blk W cb 3 _ from h)
 ob := fun sg W k h e => by rw [(own_met h k).1 e]; exact Blk.lt (show Blk W cb 3 _ from h)
 keep := by
  rintro sg W W' S h hc hS
  have h1 : ¬ S cb := fun e => (hS _ e).1 ((own_met h cb).2 rfl)
  exact Blk.chg (show Blk W cb 3 _ from h) hc h1
 call := by
  rintro sg i W h hl
  have hB : Blk W cb 3 [.int .i64 (sg.length : Int)] := h
  have x0 := Blk.at hB 0
  have hf := Blk.free hB 0
  simp only [List.getElem?_cons_zero] at x0
  have HO := hid h
  obtain ⟨m, hm⟩ : ∃ m, m = sg.length := ⟨_, rfl⟩
  rw [← hm] at x0
  have HM := hid hm
  have hml : m < 4096 := by omega
  have hk1 := hB.put 0 (.int .i64 ((m : Int) + 1))
  have HK := hid hk1
  obtain ⟨RR, hRR⟩ : ∃ RR : Ending → World → Prop, RR = fun e W' => e = .returned (.bool true) ∧ YM cb (sg ++ [(i : Int)]) W' ∧ Chg W W' (Own cb W) ∧ ∀ k, k < W.heap.size → ¬ Own cb W k → ¬ Own cb W' k := ⟨_, rfl⟩
  show Calls _ _ _ _ fun e W' => e = .returned (.bool true) ∧ YM cb (sg ++ [(i : Int)]) W' ∧ Chg W W' (Own cb W) ∧ ∀ k, k < W.heap.size → ¬ Own cb W k → ¬ Own cb W' k
  rw [← hRR]
  have HRR := hid hRR
  clear hRR h hm hk1 hl hB
  show Calls _ _ #[.int .i64 (i : Int), .pointer (some ⟨cb, 0, none⟩)] _ _
  go_enter Tryz.func14, Tryz.ntmps14
  go_wp2_with fail
  show RR (.returned (.bool true)) _
  rw [HRR.out]
  have hlen : ((sg ++ [(i : Int)]).length : Int) = (m : Int) + 1 := by rw [List.length_append, HM.out]; simp
  have hY : YM cb (sg ++ [(i : Int)]) (W.setCell ⟨cb, 0, none⟩ (.int .i64 ((m : Int) + 1))) := by unfold YM; rw [hlen]; exact HK.out
  exact ⟨rfl, hY, (Chg.refl W _).set cb 0 (.inl rfl) _, fun k hk hn e => hn ((own_met HO.out k).2 ((own_met hY k).1 e))⟩
end Go.Proofs.YtfcccfplmdjndaaGreat

/- spec: a Builder that is being filled, while other memory stays as it was. -/
namespace Go.Proofs.YtfcccfplmdjndaaGreat
set_option linter.unusedSimpArgs false
set_option linter.unusedVariables false
open Go.RowKit

theorem BOk.nil9 {w : World} {pb : Nat} (base : Nat) (h : Blk w pb 41 [.slice none 0 0, .slice none 0 0]) : BOk w pb base [] [] (.slice none 0 0) (.slice none 0 0) :=
 ⟨h, ⟨rfl, .inl ⟨rfl, rfl⟩⟩, ⟨rfl, .inl ⟨rfl, rfl⟩⟩, fun v hv => by simp at hv⟩
theorem BOk.belowN {n : Nat} {w1 w w' : World} {pb base : Nat} {vs : List NV} {ds : List DT} {nv dv v : Value} (h : BOk w pb base vs ds nv dv) (hb : Below n w1 w) (hs : n ≤ w1.heap.size) (h1 : n ≤ pb) (h2 : n ≤ base) (hv : v = nv ∨ v = dv) (hc : Chg w w' (fun k => k = pb ∨ v.ownBlock = some k)) : Below n w1 w' := by
 refine Chg.below hb hc (Nat.le_trans hs hb.size) (fun j hj => ?_)
 rcases hj with rfl | hj
 ·exact h1
 ·rcases hv with rfl | rfl
  ·exact Nat.le_trans h2 (owns_block h.rn j hj).1
  ·exact Nat.le_trans h2 (owns_block h.rd j hj).1
/-- The Builder lies at p; below p nothing changes. -/
structure BkX (w1 : World) (p : Nat) (vs : List NV) (ds : List DT) (nv dv : Value) (W : World) : Prop where
 bel : Below p w1 W
 sz : p ≤ w1.heap.size
 ok : BOk W p p vs ds nv dv
theorem BkX.keep {w1 : World} {p : Nat} {vs : List NV} {ds : List DT} {nv dv : Value} {W W' : World} (h : BkX w1 p vs ds nv dv W) (hb : Below W.heap.size W W') : BkX w1 p vs ds nv dv W' :=
 ⟨h.bel.trans (hb.mono (Nat.le_trans h.sz h.bel.size)), h.sz, h.ok.keep hb⟩
theorem BkX.size {w1 : World} {p : Nat} {vs : List NV} {ds : List DT} {nv dv : Value} {W : World} (h : BkX w1 p vs ds nv dv W) : p ≤ W.heap.size := Nat.le_trans h.sz h.bel.size
end Go.Proofs.YtfcccfplmdjndaaGreat

/- The law WholeRead, walked. -/
namespace Go.Proofs.YtfcccfplmdjndaaGreat
set_option linter.unusedSimpArgs false
set_option linter.unusedVariables false
open Go.RowKit

def ewZ : ByteArray := { data := #[109, 97, 105, 110, 32, 61, 32, 117, 56, 59] }
def ewT : List Tk := [⟨1, 0, [109, 97, 105, 110]⟩, ⟨4, 5, [61]⟩, ⟨1, 7, [117, 56]⟩, ⟨4, 9, [59]⟩, ⟨5, 10, []⟩]
theorem ew_scan : scanT ewZ.data.toList = .ok ewT := by kernel_rfl
theorem ew_parse : (parseL (stripT ewT)).fc = 0 := by kernel_rfl
theorem word_u8 : wordP [117, 56] = true := by kernel_rfl
/-- What Parse answers: a fault, or a specification of the tokens. -/
theorem parse_cases (s : ByteArray) (w : World) : Calls Tryz.prog 8 #[.string s] w fun e w' => Below w.heap.size w w' ∧ ((∃ c : Nat, ∃ p : Int, c ≠ 0 ∧ e = .returned (.tuple #[.agg #[.slice none 0 0, .slice none 0 0], .agg #[.int .i64 (c : Int), .int .i64 p]])) ∨ ∃ ts, scanT s.data.toList = .ok ts ∧ (parseL (stripT ts)).fc = 0 ∧ ∃ s' : SpV, e = .returned (.tuple #[s'.val, .agg #[.int .i64 0, .int .i64 0]]) ∧ s'.ds = (parseL (stripT ts)).ds ∧ s'.ts = (parseL (stripT ts)).ns ∧ SpecOwn w' w.heap.size s' ∧ ckS s'.vs s'.ds = 0 ∧ (∀ v ∈ s'.vs, Fits v)) := by
 cases hs : scanT s.data.toList with
 | error e0 =>
  obtain ⟨c, p⟩ := e0
  refine (parse_ever s w).mono ?_
  rintro e w' ⟨hb, h⟩
  rw [hs] at h
  exact ⟨hb, .inl ⟨c, p, scanT_err hs, h⟩⟩
 | ok ts =>
  refine (parse_end s hs w).mono ?_
  rintro e w' ⟨hb, h | h⟩
  ·obtain ⟨hf, p, h⟩ := h
   exact ⟨hb, .inl ⟨_, p, hf, h⟩⟩
  ·obtain ⟨hf, s', h⟩ := h
   exact ⟨hb, .inr ⟨ts, rfl, hf, s', h⟩⟩
theorem Blk.keepB {n : Nat} {w w' : World} {g : Nat} {T : TypeId} {cs : List Value} (h : Blk w g T cs) (hb : Below n w w') (hg : g < n) : Blk w' g T cs := (hb.block g hg).trans h
theorem SpecOk.keepB {n : Nat} {w w' : World} {s : SpV} (h : SpecOk w (· < n) s) (hb : Below n w w') : SpecOk w' (· < n) s :=
 h.mono (fun b hlt _ => hb.block b hlt) hb.size (fun _ h _ => h)
set_option maxRecDepth 100000 in
set_option maxHeartbeats 8000000 in
theorem wr_walk (s : ByteArray) (w : World) : Calls Tryz.prog 5 #[.string s] w fun e w' => e = .returned (.bool true) ∧ Below w.heap.size w w' := by
 have HP0 := hid (fun W => parse_end ewZ ew_scan W)
 unfold ewZ at HP0
 have HWd := hid (fun W => word_any [117, 56] (by decide) W)
 rw [word_u8] at HWd
 have HPc := hid (fun W => parse_cases s W)
 have HSc := hid (fun W => scan_any s W)
 have HJe := hid (fun (us : List Tk) (J : List UInt8) (h : scanT J = .ok us) W => parse_end ⟨J.toArray⟩ h W)
 go_enter Tryz.func5, Tryz.ntmps5
 go_wp2_with fail
 refine (HP0.out _).mono ?_
 rintro e w1 ⟨hb1, hp⟩
 rcases hp with ⟨h0, _⟩ | ⟨_, s0, rfl, -, -, -, -, -⟩
 ·exact absurd ew_parse h0
 obtain ⟨v0, d0, ⟨A0, n0, c0⟩, ⟨A1, n1, c1⟩⟩ := s0
 unfold SpV.val
 dsimp only
 obtain ⟨hbx, _, hf2⟩ := box_sf w1 (.slice A0 n0 c0) (.slice A1 n1 c1) 0 0
 have HB := hid (hb1.trans (hbx.mono hb1.size))
 have f0 : _ = some ((.int .i64 0 : Value)) := Blk.at hf2 0
 clear hb1 hbx hf2 HP0
 go_upto_region 2 with fail
 generalize (w1.alloc (.cells #[.slice A0 n0 c0, .slice A1 n1 c1] 32)).alloc (.cells #[.int .i64 0, .int .i64 0] 26) = w2 at *
 generalize w1.heap.size + 1 = b4 at *
 generalize w1.heap.size = b3 at *
 go_upto_region 4 with (go_at_call 11; refine (HWd.out _).mono ?_; rintro e w3 ⟨rfl, rfl⟩)
 clear f0 HWd
 by_cases hs : 2000 < s.size
 ·have hs' : (2000 : Int) < (s.size : Int) := by omega
  go_wp2_with fail
  go_ret
  exact ⟨rfl, HB.out⟩
 have hs' : ¬ (2000 : Int) < (s.size : Int) := by omega
 have hlen : s.data.toList.length = s.size := rfl
 go_wp2_with fail
 refine (HPc.out _).mono ?_
 rintro e w3 ⟨hb3, hp⟩
 rcases hp with ⟨c, P, hc0, rfl⟩ | ⟨ts, hok, hf, s1, rfl, hd1, ht1, ho1, hc1, hf1⟩
 ·obtain ⟨hbx, hv2, hf2⟩ := box_sf w3 (.slice none 0 0) (.slice none 0 0) (c : Int) P
  replace HB := hid (HB.out.trans ((hb3.trans (hbx.mono hb3.size)).mono HB.out.size))
  have x0 : _ = some ((.slice none 0 0 : Value)) := Blk.at hv2 0
  have f0 : _ = some ((.int .i64 (c : Int) : Value)) := Blk.at hf2 0
  have hcb : ((c : Int) != 0) = true := by simpa using (show ¬ (c : Int) = 0 by omega)
  clear hb3 hbx hv2 hf2 HPc HSc HJe
  go_upto_region 7 with fail
  generalize (w3.alloc (.cells #[.slice none 0 0, .slice none 0 0] 32)).alloc (.cells #[.int .i64 (c : Int), .int .i64 P] 26) = w4 at *
  generalize w3.heap.size + 1 = b6 at *
  generalize w3.heap.size = b5 at *
  go_wp2_with fail
  go_ret
  exact ⟨rfl, HB.out⟩
 rw [hok] at HSc
 obtain ⟨hend, hl9, hx9⟩ := scanT_fits hok
 have hpos : 0 < ts.length := by obtain ⟨k, t, e, _⟩ := hend; rw [e]; simp
 obtain ⟨hjl, us, hus, hal⟩ := back_scan hok (by omega)
 have hl := scan_ok_len hok
 have hcx := chain_x ts 0 (chain_scan hok)
 have HJ := hid (fun W bt cap (h : RdK W (some ⟨bt, 0, none⟩) ts) => join_any (cap := cap) h (by omega) (fun t ht => by have := hcx t ht; omega) (by omega))
 have HP2 := hid (fun W => HJe.out us (joinT ts) hus W)
 rw [alike_strip hal] at HP2
 obtain ⟨r, hr⟩ : ∃ r, r = parseL (stripT ts) := ⟨_, rfl⟩
 rw [← hr] at HP2 hf hd1 ht1
 clear hr hjl hus hal hl hcx HPc HJe hend hl9 hx9 hok
 have HC1 := hid hc1
 have HFt := hid hf1
 obtain ⟨vs, ds, ⟨NA, Nn, Nc⟩, ⟨DA, Dn, Dc⟩⟩ := s1
 have hnn : Nn = vs.length := ho1.nn
 subst hnn
 have hdn : Dn = ds.length := ho1.dn
 subst hdn
 unfold SpV.val
 dsimp only
 obtain ⟨hbx, hv2, hf2⟩ := box_sf w3 (.slice NA vs.length Nc) (.slice DA ds.length Dc) 0 0
 have hb6 := hb3.trans (hbx.mono hb3.size)
 have HX1 := hid (((SpecOwn.ok9 ho1).keep hbx).mono (Q := fun _ => True) (fun _ _ _ => rfl) (Nat.le_refl _) (fun _ _ _ => trivial))
 replace HB := hid (HB.out.trans (hb6.mono HB.out.size))
 have HV := hid hv2
 have HE1 := hid (And.intro hd1 ht1)
 have f0 : _ = some ((.int .i64 0 : Value)) := Blk.at hf2 0
 clear hb3 hbx hv2 hf2 hb6 ho1 hd1 ht1 hc1 hf1
 go_upto_region 7 with fail
 generalize (w3.alloc (.cells #[.slice NA vs.length Nc, .slice DA ds.length Dc] 32)).alloc (.cells #[.int .i64 0, .int .i64 0] 26) = w4 at *
 generalize w3.heap.size + 1 = b6 at *
 generalize w3.heap.size = b5 at *
 go_wp2_with fail
 refine (HSc.out _).mono ?_
 rintro e w5 ⟨hb5, hq⟩
 simp only at hq
 obtain ⟨v, rfl, hown⟩ := hq
 obtain ⟨bt, cap, ct, rfl, hbt, hBt, hcap⟩ := owns_some hown hpos
 unfold faultC
 have hal4 := al_below w5 (.cells #[.int .i64 0, .int .i64 0] 26)
 have h8 : Blk (w5.alloc (.cells #[.int .i64 0, .int .i64 0] 26)) w5.heap.size 26 [.int .i64 0, .int .i64 0] := heap_alloc_new w5 _
 have hb6 := hb5.trans (hal4.mono hb5.size)
 replace HB := hid (HB.out.trans (hb6.mono HB.out.size))
 have HK := hid ((RdK.of_own hown rfl).keep hal4)
 replace HV := hid (HV.out.keep hb6)
 replace HX1 := hid (HX1.out.keep hb6)
 have HG := hid h8
 clear hal4 h8 hb5 hb6 hown hBt hcap hbt f0 HSc
 go_upto_region 10 with fail
 generalize w5.alloc (.cells #[.int .i64 0, .int .i64 0] 26) = w6 at *
 generalize w5.heap.size = b8 at *
 go_wp2_with fail
 refine (HJ.out _ _ _ HK.out).mono ?_
 rintro e w7 ⟨rfl, hb7⟩
 replace HB := hid (HB.out.trans (hb7.mono HB.out.size))
 replace HV := hid (HV.out.keep hb7)
 replace HX1 := hid (HX1.out.keep hb7)
 replace HG := hid (HG.out.keep hb7)
 clear hb7
 go_wp2_with fail
 refine (HP2.out _).mono ?_
 rintro e w8 ⟨hb8, hp⟩
 rcases hp with ⟨h0, _⟩ | ⟨_, s2, rfl, hd2, ht2, ho2, hc2, hf2'⟩
 ·exact absurd hf h0
 have HC2 := hid hc2
 obtain ⟨v2, d2, ⟨MA, Mn, Mc⟩, ⟨EA, En, Ec⟩⟩ := s2
 unfold SpV.val
 dsimp only
 obtain ⟨hbx, hv2, hf2⟩ := box_sf w8 (.slice MA Mn Mc) (.slice EA En Ec) 0 0
 have hb9 := hb8.trans (hbx.mono hb8.size)
 have HX2 := hid (((SpecOwn.ok9 ho2).keep hbx).mono (Q := fun _ => True) (fun _ _ _ => rfl) (Nat.le_refl _) (fun _ _ _ => trivial))
 replace HB := hid (HB.out.trans (hb9.mono HB.out.size))
 replace HV := hid (HV.out.keep hb9)
 replace HX1 := hid (HX1.out.keep hb9)
 have HE2 := hid (And.intro (hd2.trans HE1.out.1.symm) (ht2.trans HE1.out.2.symm))
 have x0 : _ = some ((.int .i64 0 : Value)) := Blk.at (HG.out.keep hb9) 0
 have y0 : _ = some ((.int .i64 0 : Value)) := Blk.at hf2 0
 have p0 : _ = some ((.slice NA vs.length Nc : Value)) := Blk.at HV.out 0
 have p1 : _ = some ((.slice DA ds.length Dc : Value)) := Blk.at HV.out 1
 have q0 : _ = some ((.slice MA Mn Mc : Value)) := Blk.at hv2 0
 have q1 : _ = some ((.slice EA En Ec : Value)) := Blk.at hv2 1
 clear hb8 hbx hv2 hf2 hb9 ho2 hd2 ht2 hc2 hf2' HG HK HP2 HJ
 go_upto_region 11 with fail
 generalize (w8.alloc (.cells #[.slice MA Mn Mc, .slice EA En Ec] 32)).alloc (.cells #[.int .i64 0, .int .i64 0] 26) = w9 at *
 generalize w8.heap.size + 1 = b10 at *
 generalize w8.heap.size = b9 at *
 have HSm := hid (Same_eq ⟨vs, ds, ⟨NA, vs.length, Nc⟩, ⟨DA, ds.length, Dc⟩⟩ ⟨v2, d2, ⟨MA, Mn, Mc⟩, ⟨EA, En, Ec⟩⟩ HE2.out.1 HE2.out.2 HC1.out HC2.out w9 HX1.out HX2.out)
 unfold SpV.val at HSm
 dsimp only at HSm
 have HCk := hid (fun W (h : SpecOk W (fun _ => True) ⟨vs, ds, ⟨NA, vs.length, Nc⟩, ⟨DA, ds.length, Dc⟩⟩) => Check_any ⟨vs, ds, ⟨NA, vs.length, Nc⟩, ⟨DA, ds.length, Dc⟩⟩ W h HFt.out)
 unfold SpV.val at HCk
 dsimp only at HCk
 have HCz := hid (show ckS vs ds = 0 from HC1.out)
 simp only [HCz.out, Int.natCast_zero] at HCk
 go_upto_region 13 with (first
  | (go_at_call 10; refine HSm.out.mono ?_; rintro e w10 ⟨rfl, hb10⟩; replace HB := hid (HB.out.trans (hb10.mono HB.out.size)); replace HV := hid (HV.out.keep hb10); replace HX1 := hid (HX1.out.keep hb10); clear hb10 x0 y0 p0 p1 q0 q1 HSm HX2; have p0 : _ = some ((.slice NA vs.length Nc : Value)) := Blk.at HV.out 0; have p1 : _ = some ((.slice DA ds.length Dc : Value)) := Blk.at HV.out 1)
  | (go_at_call 12; refine (HCk.out _ HX1.out).mono ?_; rintro e w11 ⟨rfl, hb11⟩; replace HB := hid (HB.out.trans (hb11.mono HB.out.size)); replace HV := hid (HV.out.keep hb11); replace HX1 := hid (HX1.out.keep hb11); clear hb11 p0 p1 HCk))
 have hal := al2_below w11 (.cells #[.int .i64 0] 3) (.cells #[.slice none 0 0, .slice none 0 0] 41)
 have hm : Blk ((w11.alloc (.cells #[.int .i64 0] 3)).alloc (.cells #[.slice none 0 0, .slice none 0 0] 41)) w11.heap.size 3 [.int .i64 0] := (Below.heap_alloc _ _ _ (by simp)).trans (heap_alloc_new w11 _)
 have hbu : Blk ((w11.alloc (.cells #[.int .i64 0] 3)).alloc (.cells #[.slice none 0 0, .slice none 0 0] 41)) (w11.heap.size + 1) 41 [.slice none 0 0, .slice none 0 0] := by
  have h := heap_alloc_new (w11.alloc (.cells #[.int .i64 0] 3)) (.cells #[.slice none 0 0, .slice none 0 0] 41)
  rw [World.size_alloc] at h
  exact h
 have HX9 := hid (HX1.out.mono (Q := (· < w11.heap.size)) (fun _ _ _ => rfl) (Nat.le_refl _) (fun b _ hb => hb))
 have HVl := hid HV.out.lt
 have p1 : _ = some ((.slice DA ds.length Dc : Value)) := Blk.at (HV.out.keepB hal HV.out.lt) 1
 have HBel := hid hal
 have HM := hid (show YM w11.heap.size (seenF (ptT (vs.map NV.t)) ((ds.map DT.ty).take 0)) _ from hm)
 have HBu := hid hbu
 have HVal := hid (show Val vs.length (ptT (vs.map NV.t)) (ds.map DT.ty) ∧ (∀ v ∈ vs, ckV v = 0) ∧ vs.length ≤ 2048 ∧ 0 < ds.length ∧ ds.length ≤ 64 from ckS_zero HCz.out)
 have hd64 : ds.length ≤ 64 := HVal.out.2.2.2.2
 have hv2048 : vs.length ≤ 2048 := HVal.out.2.2.1
 clear hal hm hbu HX1
 go_upto_region 15 with fail
 generalize (w11.alloc (.cells #[.int .i64 0] 3)).alloc (.cells #[.slice none 0 0, .slice none 0 0] 41) = w12 at *
 have HSz := hid (show w11.heap.size ≤ w11.heap.size from Nat.le_refl _)
 obtain ⟨B0, hB0⟩ : ∃ b, b = w11.heap.size := ⟨_, rfl⟩
 rw [← hB0] at HX9 HVl HBel HM HBu
 have HB0 := hid hB0
 simp only [← hB0]
 clear hB0 HSz
 go_wp2_with fail
 go_loopg [82] (ds.length + 1) (fun m i wr => ∃ j : Nat, j ≤ ds.length ∧ ds.length < m + j ∧ i = .int .i64 (j : Int) ∧ Hid (Below B0 w11 wr) ∧ Hid (YM B0 (seenF (ptT (vs.map NV.t)) ((ds.map DT.ty).take j)) wr) ∧ Hid (Blk wr (B0 + 1) 41 [.slice none 0 0, .slice none 0 0]))
 case atStart => exact ⟨0, by omega, by omega, rfl, HBel, HM, HBu⟩
 case round =>
  clear HBel HM HBu p1
  obtain ⟨j, hj, hgm, rfl, HBel, HM, HBu⟩ := hrel
  obtain ⟨m, rfl⟩ : ∃ m, gk = m + 1 := ⟨gk - 1, by omega⟩
  rcases Nat.lt_or_ge j ds.length with hlt | hge
  ·have n1' : (j : Int) < (ds.length : Int) := by omega
   obtain ⟨b, o, hA, hl, hP, c0, c1⟩ := def_cell (HX9.out.keepB HBel.out).d (q := j) hlt
   have hA : DA = some ⟨b, o, none⟩ := hA
   subst hA
   simp only at c0 c1
   obtain ⟨X, hX⟩ : ∃ X, X = ds[j].nm := ⟨_, rfl⟩
   rw [← hX] at c0
   have hrs : (ds.map DT.ty)[j]? = some ds[j].ty := by rw [List.getElem?_map, List.getElem?_eq_getElem hlt]; rfl
   have hin := HVal.out.1.inb _ (List.mem_of_getElem? hrs)
   obtain ⟨x, hx⟩ : ∃ x : Nat, ds[j].ty = (x : Int) := ⟨ds[j].ty.toNat, by omega⟩
   rw [hx] at c1 hrs hin
   have hxn : x < vs.length := by have := hin.2; omega
   have hal := al_below wr (.cells #[.string X, .int .i64 (x : Int)] 43)
   have h14 : Blk (wr.alloc (.cells #[.string X, .int .i64 (x : Int)] 43)) wr.heap.size 43 [.string X, .int .i64 (x : Int)] := heap_alloc_new wr _
   have hy5 : YM B0 _ _ := Blk.keep HM.out hal
   replace HBel := hid (HBel.out.trans (hal.mono (by have := HM.out.lt; omega)))
   replace HBu := hid (HBu.out.keep hal)
   have hO := HX9.out.keepB HBel.out
   have d1 : _ = some ((.int .i64 (x : Int) : Value)) := Blk.at h14 1
   have hv5 := HV.out.keepB HBel.out HVl.out
   have p0 : _ = some ((.slice NA vs.length Nc : Value)) := Blk.at hv5 0
   have p1 : _ = some ((.slice (some ⟨b, o, none⟩) ds.length Dc : Value)) := Blk.at hv5 1
   have hfit := seen_fits HVal.out.1 hrs
   rw [show ((x : Int)).toNat = x from rfl] at hfit
   have hEa := Each_any (s := ⟨vs, ds, ⟨NA, vs.length, Nc⟩, ⟨some ⟨b, o, none⟩, ds.length, Dc⟩⟩) (base := B0) (yields_met B0) HVal.out.1 HVal.out.2.1 HVal.out.2.2.1 x hxn _ _ hO (by have := hy5.lt; omega) hy5 (fun k hk e => by have := (own_met hy5 k).1 e; omega) (by have := HVal.out.2.2.1; have h := hfit; show _ + (sub (ptT (vs.map NV.t)) x).length ≤ 4096; omega)
   unfold SpV.val at hEa
   dsimp only at hEa
   simp only [vis_true] at hEa
   have HEa := hid hEa
   have HY5 := hid hy5
   have HRs := hid hrs
   clear hEa hfit hO hv5 h14 hal hin hl hP hX HM hy5 hrs
   go_upto_region 18 with fail
   generalize wr.alloc (.cells #[.string X, .int .i64 (x : Int)] 43) = w5 at *
   generalize wr.heap.size = g5 at *
   clear c0 c1
   go_wp2_with (go_at_call 13; refine HEa.out.mono ?_; rintro e w6 ⟨rfl, hy6, hc6, -⟩; have HY6 := hid hy6; have HC6 := hid hc6; clear hy6 hc6)
   have hc6 := HC6.out
   have hb6 : Below B0 w11 w6 := Chg.below HBel.out hc6 (by have := HY5.out.lt; omega) (fun k hk => by have := (own_met HY5.out k).1 hk; omega)
   have hbu6 : Blk w6 (B0 + 1) 41 [.slice none 0 0, .slice none 0 0] := HBu.out.chg hc6 (fun hk => by have := (own_met HY5.out _).1 hk; omega)
   have hy6 : YM B0 (seenF (ptT (vs.map NV.t)) ((ds.map DT.ty).take (j + 1))) w6 := by
    have h := HY6.out
    rw [seen_next HRs.out]
    exact h
   have H6 := hid (And.intro hb6 (And.intro hy6 hbu6))
   clear hc6 hb6 hbu6 hy6
   go_roundg m
   case measure => omega
   case rel => exact ⟨j + 1, by omega, by omega, by go_num, hid H6.out.1, hid H6.out.2.1, hid H6.out.2.2⟩
  ·obtain rfl : j = ds.length := by omega
   have n1' : ¬ ((ds.length : Nat) : Int) < (ds.length : Int) := by omega
   have hM : Blk wr B0 3 [.int .i64 (vs.length : Int)] := by
    have h := HM.out
    unfold YM at h
    rw [List.take_of_length_le (by rw [List.length_map]; exact Nat.le_refl _), seen_all_len HVal.out.1] at h
    exact h
   have HM1 := hid hM
   have HBel1 := hid HBel.out
   have HBk := hid (show BkX wr (B0 + 1) [] [] (.slice none 0 0) (.slice none 0 0) wr from ⟨Below.refl _ _, Nat.le_of_lt HBu.out.lt, BOk.nil9 _ HBu.out⟩)
   have HX1 := hid (HX9.out.keepB HBel.out)
   have hv5 := HV.out.keepB HBel.out HVl.out
   have HV1 := hid hv5
   have p0 : _ = some ((.slice NA vs.length Nc : Value)) := Blk.at hv5 0
   clear hM hv5 HM HBel HBu
   go_wp2_with fail
   obtain ⟨w13, hw13⟩ : ∃ w13, w13 = wr := ⟨_, rfl⟩
   rw [← hw13] at HBk HX1 HV1 HM1 HBel1
   go_loopw [95] (fun i wr => ∃ (j : Nat) (us : List NV) (nv : Value), j ≤ vs.length ∧ i = .int .i64 j ∧ Hid (BkX w13 (B0 + 1) us [] nv (.slice none 0 0) wr) ∧ Hid (us.map NV.t = (vs.map NV.t).take j)) (fun i _ => vs.length - (intOf i).toNat)
   case atStart => exact ⟨0, [], _, by omega, rfl, (by subst hw13; exact HBk), hid rfl⟩
   case round =>
    clear HBk p0
    obtain ⟨j, us, nv, hj, rfl, HK, HU⟩ := hrel
    by_cases hlt : j < vs.length
    ·have hlt' : (j : Int) < (vs.length : Int) := by omega
     obtain ⟨b, o, hA, hbl, hPb, hrg⟩ := rw_range HX1.out.n hlt
     have hA : NA = some ⟨b, o, none⟩ := hA
     subst hA
     have HRg := hid (range_keep hrg (HK.out.bel.block b (by omega)))
     have hvm : vs[j] ∈ vs := List.getElem_mem hlt
     obtain ⟨v, hv⟩ : ∃ v, v = vs[j] := ⟨_, rfl⟩
     have HRg := hid (show wr.rangeAt b (o + j * 18) v.cells by rw [hv]; exact HRg.out)
     have hbx := row_new wr 54 #[.int .i64 0, .int .i64 0, .bool false, .bool false, .bool false, .int .u64 0, .int .u64 0, .string ⟨#[]⟩, .string ⟨#[]⟩, .int .u64 0, .int .u64 0, .slice none 0 0, .slice none 0 0, .slice none 0 0, .string ⟨#[]⟩, .int .u64 0, .slice none 0 0, .int .i64 0] v.cells.toArray
     have HN5 := hid (show NBox ((wr.alloc (.cells #[.int .i64 0, .int .i64 0, .bool false, .bool false, .bool false, .int .u64 0, .int .u64 0, .string ⟨#[]⟩, .string ⟨#[]⟩, .int .u64 0, .int .u64 0, .slice none 0 0, .slice none 0 0, .slice none 0 0, .string ⟨#[]⟩, .int .u64 0, .slice none 0 0, .int .i64 0] 54)).setRow wr.heap.size v.cells.toArray) wr.heap.size v.cells.toArray v from ⟨setRow_heap _ _ _ _ _ (0, 0) (heap_alloc_new wr _), rfl⟩)
     have HK5 := hid (HK.out.keep hbx)
     have HOk := hid (show NodeOk w13 (· < B0) v by rw [hv]; exact HX1.out.each _ hvm)
     have HFv := hid (show Fits v by rw [hv]; exact HFt.out _ hvm)
     have HSz := hid (nv_size v)
     have HOne := hid (nv_one v)
     have HLen := hid (show v.cells.length = 18 from rfl)
     have hul : us.length = j := by have := congrArg List.length HU.out; simp only [List.length_map, List.length_take] at this; omega
     have HUl := hid hul
     have HUl2 := hid (show us.length < 2048 by omega)
     have HU2 := hid (show us.map NV.t ++ [v.t] = (vs.map NV.t).take (j + 1) by rw [HU.out, hv, List.take_add_one]; simp [List.getElem?_eq_getElem hlt])
     clear hrg hbl hPb hv hbx HK HU hul hvm
     go_wp2_with (first
      | ((with_reducible refine wpList_load_mid rfl 54 _ rfl b (o + j * 18) ?_ v.cells _ HRg.out Tryz.underlying54 ?_ ?_ ?_); exact rfl; exact rfl; (rw [HLen.out]; kernel_rfl))
      | ((with_reducible refine wpList_store_row rfl 54 _ _ rfl wr.heap.size v.cells.toArray ?_ ?_ 54 #[.int .i64 0, .int .i64 0, .bool false, .bool false, .bool false, .int .u64 0, .int .u64 0, .string ⟨#[]⟩, .string ⟨#[]⟩, .int .u64 0, .int .u64 0, .slice none 0 0, .slice none 0 0, .slice none 0 0, .string ⟨#[]⟩, .int .u64 0, .slice none 0 0, .int .i64 0] (heap_alloc_new wr _) HSz.out ?_ HOne.out ?_); exact rfl; exact rfl; exact rfl; generalize (wr.alloc (.cells #[.int .i64 0, .int .i64 0, .bool false, .bool false, .bool false, .int .u64 0, .int .u64 0, .string ⟨#[]⟩, .string ⟨#[]⟩, .int .u64 0, .int .u64 0, .slice none 0 0, .slice none 0 0, .slice none 0 0, .string ⟨#[]⟩, .int .u64 0, .slice none 0 0, .int .i64 0] 54)).setRow wr.heap.size v.cells.toArray = w5 at *)
      | ((with_reducible refine wpList_load_node _ rfl HN5.out ?_ ?_ ?_); exact rfl; exact rfl)
      | (go_at_call 15; have hAd := Add_yes HK5.out.ok HK5.out.size v ((HOk.out.mono (fun b hb _ => HK5.out.bel.block b (by omega)) HK5.out.bel.size (fun _ h _ => h) : NodeOk _ (· < B0) v)) HFv.out HUl2.out; rw [HUl.out, NV.val_eq] at hAd; (with_reducible refine hAd.mono ?_); clear hAd; rintro e w6 ⟨rfl, u, nv2, hu, ho6, hc6⟩; have HK6 := hid (show BkX w13 (B0 + 1) (us ++ [u]) [] nv2 (.slice none 0 0) w6 from ⟨HK5.out.ok.belowN HK5.out.bel HK5.out.sz (Nat.le_refl _) (Nat.le_refl _) (.inl rfl) hc6, HK5.out.sz, ho6⟩); have HU6 := hid (show (us ++ [u]).map NV.t = (vs.map NV.t).take (j + 1) by rw [List.map_append, List.map_cons, List.map_nil, hu]; exact HU2.out); clear ho6 hc6 hu HK5 HU2))
     all_goals exact ⟨⟨j + 1, us ++ [u], nv2, by omega, by go_num, HK6, HU6⟩, by simp [intOf]; omega⟩
    ·obtain rfl : j = vs.length := by omega
     have HU2 := hid (show us.map NV.t = vs.map NV.t by rw [HU.out, List.take_of_length_le (by rw [List.length_map]; exact Nat.le_refl _)])
     clear HU
     have hv5 : Blk wr b5 32 [.slice NA vs.length Nc, .slice DA ds.length Dc] := HV1.out.keepB HK.out.bel (by have := HVl.out; omega)
     have p1 : _ = some ((.slice DA ds.length Dc : Value)) := Blk.at hv5 1
     clear hv5
     go_wp2_with fail
     go_loopw [105] (fun i wr => ∃ (q : Nat) (dv : Value), q ≤ ds.length ∧ i = .int .i64 q ∧ Hid (BkX w13 (B0 + 1) us (ds.take q) nv dv wr)) (fun i _ => ds.length - (intOf i).toNat)
     case atStart => exact ⟨0, _, by omega, rfl, HK⟩
     case round =>
      clear HK p1
      obtain ⟨q, dv, hq, rfl, HK⟩ := hrel
      by_cases hlt2 : q < ds.length
      ·have hlt' : (q : Int) < (ds.length : Int) := by omega
       obtain ⟨b, o, hA, hl, hP, c0, c1⟩ := def_cell (HX1.out.keepB (HK.out.bel.mono (by omega))).d (q := q) hlt2
       have hA : DA = some ⟨b, o, none⟩ := hA
       subst hA
       simp only at c0 c1
       obtain ⟨X, hX⟩ : ∃ X, X = ds[q].nm := ⟨_, rfl⟩
       obtain ⟨p, hp⟩ : ∃ p, p = ds[q].ty := ⟨_, rfl⟩
       rw [← hX] at c0
       rw [← hp] at c1
       have hal := al_below wr (.cells #[.string X, .int .i64 p] 43)
       have h18 : Blk (wr.alloc (.cells #[.string X, .int .i64 p] 43)) wr.heap.size 43 [.string X, .int .i64 p] := heap_alloc_new wr _
       have HK5 := hid (HK.out.keep hal)
       have e0 : _ = some ((.string X : Value)) := Blk.at h18 0
       have e1 : _ = some ((.int .i64 p : Value)) := Blk.at h18 1
       have HD5 := hid (show ds.take q ++ [DT.mk X p] = ds.take (q + 1) by rw [List.take_add_one, List.getElem?_eq_getElem hlt2, hX, hp]; rfl)
       have HDl := hid (show (ds.take q).length < 64 by rw [List.length_take]; omega)
       clear hal h18 hl hP hX hp HK
       go_upto_region 28 with fail
       generalize wr.alloc (.cells #[.string X, .int .i64 p] 43) = w5 at *
       generalize wr.heap.size = g5 at *
       clear c0 c1
       go_wp2_with (go_at_call 16; (with_reducible refine (Name_yes HK5.out.ok X p HDl.out HK5.out.size).mono ?_); rintro e w6 ⟨rfl, dv2, ho6, hc6⟩; have HK6 := hid (show BkX w13 (B0 + 1) us (ds.take (q + 1)) nv dv2 w6 from ⟨HK5.out.ok.belowN HK5.out.bel HK5.out.sz (Nat.le_refl _) (Nat.le_refl _) (.inr rfl) hc6, HK5.out.sz, by rw [← HD5.out]; exact ho6⟩); clear ho6 hc6 HK5)
       all_goals exact ⟨⟨q + 1, dv2, by omega, by go_num, HK6⟩, by simp [intOf]; omega⟩
      ·obtain rfl : q = ds.length := by omega
       have hK2 : BkX w13 (B0 + 1) us ds nv dv wr := by
        have h := HK.out
        rw [List.take_of_length_le (Nat.le_refl _)] at h
        exact h
       have hUs : ∀ v ∈ us, Shp v := fun v hv => (hK2.ok.each v hv).shp
       have hVs : ∀ v ∈ vs, Shp v := fun v hv => (HX1.out.each v hv).shp
       have hRu : ckS us ds = 0 := by rw [ckS_t ds HU2.out hUs hVs]; exact HCz.out
       have hFu : ∀ v ∈ us, Fits v := fun v hv => by
        have hm : v.t ∈ vs.map NV.t := by rw [← HU2.out]; exact List.mem_map_of_mem hv
        obtain ⟨u, hu, e⟩ := List.mem_map.1 hm
        have h1 := hUs v hv
        have h2 := hVs u hu
        have h3 := HFt.out u hu
        unfold Shp at h1 h2
        rw [e] at h2
        obtain ⟨f1, f2, f3, f4⟩ := h3
        exact ⟨by omega, by omega, by omega, by omega⟩
       have hUn : us.length ≤ 2048 := by
        have := congrArg List.length HU2.out
        simp only [List.length_map] at this
        omega
       have HSp := hid (Spec_any hK2.ok hFu hUn hd64)
       have HRu := hid hRu
       have hbx := HK.out.bel
       have HBx := hid hbx
       have HVs := hid hVs
       clear hK2 hUs hVs hRu hFu hUn hbx HK
       go_wp2_with fail
       refine HSp.out.mono ?_
       rintro e w6 ⟨hb6, hh⟩
       rcases hh with ⟨h0, _⟩ | ⟨_, s3, rfl, h3d, h3t, h3o⟩
       ·exact absurd HRu.out h0
       obtain ⟨v3, d3, ⟨PA, Pn, Pc⟩, ⟨QA, Qn, Qc⟩⟩ := s3
       have h3d : d3 = ds := h3d
       have h3t : v3.map NV.t = us.map NV.t := h3t
       have hc3 : ckS v3 d3 = 0 := by
        rw [h3d, ckS_t ds (h3t.trans HU2.out) (fun v hv => (h3o.each v hv).shp) HVs.out]
        exact HCz.out
       unfold SpV.val
       dsimp only
       have hal := al_below w6 (.cells #[.slice PA Pn Pc, .slice QA Qn Qc] 32)
       have h19 : Blk (w6.alloc (.cells #[.slice PA Pn Pc, .slice QA Qn Qc] 32)) w6.heap.size 32 [.slice PA Pn Pc, .slice QA Qn Qc] := heap_alloc_new w6 _
       have hb9 := hb6.trans (hal.mono hb6.size)
       have hbel : Below (B0 + 1) w13 (w6.alloc (.cells #[.slice PA Pn Pc, .slice QA Qn Qc] 32)) := HBx.out.trans (hb9.mono (by have := HM1.out.lt; have := HBx.out.size; omega))
       have hx1 := (HX1.out.keepB (hbel.mono (by omega))).mono (Q := fun _ => True) (fun _ _ _ => rfl) (Nat.le_refl _) (fun _ _ _ => trivial)
       have hx3 := (((SpecOwn.ok9 h3o).keep hal)).mono (Q := fun _ => True) (fun _ _ _ => rfl) (Nat.le_refl _) (fun _ _ _ => trivial)
       have hm1 := HM1.out.keepB hbel (by omega)
       have hv1 := HV1.out.keepB hbel (by have := HVl.out; omega)
       have m0 : _ = some ((.int .i64 (vs.length : Int) : Value)) := Blk.at hm1 0
       have p0 : _ = some ((.slice NA vs.length Nc : Value)) := Blk.at hv1 0
       have p1 : _ = some ((.slice DA ds.length Dc : Value)) := Blk.at hv1 1
       have q0 : _ = some ((.slice PA Pn Pc : Value)) := Blk.at h19 0
       have q1 : _ = some ((.slice QA Qn Qc : Value)) := Blk.at h19 1
       have HSm := hid (Same_eq ⟨vs, ds, ⟨NA, vs.length, Nc⟩, ⟨DA, ds.length, Dc⟩⟩ ⟨v3, d3, ⟨PA, Pn, Pc⟩, ⟨QA, Qn, Qc⟩⟩ h3d (h3t.trans HU2.out) HCz.out hc3 _ hx1 hx3)
       unfold SpV.val at HSm
       dsimp only at HSm
       have HEnd := hid (show Below w.heap.size w (w6.alloc (.cells #[.slice PA Pn Pc, .slice QA Qn Qc] 32)) from HB.out.trans ((HBel1.out.trans (hbel.mono (by omega))).mono (by rw [HB0.out]; exact HB.out.size)))
       clear hal h19 hb9 hbel hx1 hx3 hm1 hv1 hc3 h3o hb6 HSp HBx
       go_upto_region 31 with fail
       generalize w6.alloc (.cells #[.slice PA Pn Pc, .slice QA Qn Qc] 32) = w14 at *
       generalize w6.heap.size = g19 at *
       go_wp2_with (go_at_call 10; refine HSm.out.mono ?_; rintro e w15 ⟨rfl, hb15⟩; replace HEnd := hid (HEnd.out.trans (hb15.mono HEnd.out.size)); clear hb15)
       go_ret
       exact ⟨rfl, HEnd.out⟩
end Go.Proofs.YtfcccfplmdjndaaGreat

/- For every text the law WholeRead returns true, and what came in reads as before. -/
namespace Go.Proofs.YtfcccfplmdjndaaGreat.wholeReadLaw
open Go.ChangeShapes Go.WideShapes Go.ChangeAt Go.RowKit
set_option linter.unusedVariables false

theorem walk (a0 : ByteArray) (w : World) (w0 : a0.size ≤ maxLen) :
  Calls Tryz.prog 5 #[.string a0] w fun e w' => e = .returned (.bool true) ∧ Below w.heap.size w w' := by
 exact wr_walk a0 w

set_option maxRecDepth 100000 in
theorem lifted (os : Os) (started : os.Started) (H : Type) (enc : TypeId × Value → H) :
  ReturnsInHanded {} Tryz.checked os 5 .any (Rows.wholeReadSpec.pre6 enc Tryz.prog Tryz.f5 Rows.wholeReadRow.domain false) (Rows.wholeReadSpec.post enc Tryz.prog Tryz.f5 false true false false) := by
 refine returnsInHanded_of_change (C := Tryz.checked) own started (by kernel_rfl) Tryz.func5
  (ChangeSpec.witness6 (enc := enc) (C := Tryz.checked) false ⟨#[], #[.string ⟨#[]⟩], []⟩ 8 (by kernel_rfl) (by kernel_rfl) (by kernel_rfl) (by kernel_rfl)) ?_
 intro W base args ds gs before hval0 hW hcnd _
 have hval : ∀ (j : Nat) t v, Tryz.f5.params[j]? = some t → args[j]? = some v → Value.okWide Tryz.prog W .any base t v := hval0
 have hW' := hW
 obtain ⟨p, q, hA0, hV, rfl, hfz, hnd⟩ := hW
 have hA : DataW.TrodAll enc Tryz.prog W 0 (fun _ => true) true Tryz.f5.params.toList args.toList ds p := hA0
 rw [Tryz.params5] at hA hval
 obtain ⟨v0, vs0, d0, ds0, p0, q0, hargs, rfl, rfl, h0, r0⟩ := trodAll_cons hA
 obtain ⟨rfl, rfl, rfl⟩ := trodAll_nil r0
 obtain rfl : args = #[v0] := by cases args; simp_all
 obtain ⟨rfl, rfl⟩ := trodVars_none hV
 obtain ⟨a0, rfl, rfl, rfl, w0⟩ := Go.ChangeMaps.open_string Tryz.underlying9 (hval 0 9 v0 rfl rfl) h0
 clear hA0 hval0
 refine (walk a0 W w0).mono fun e W' ⟨he, bel⟩ => ?_
 subst he
 exact ⟨_, rfl, _, _, _, [], _, [], hW', trodAll_mk1 (shut_bool Tryz.underlying4 _), (trodAll_cons_mk (Go.ChangeMaps.shut_string Tryz.underlying9 w0) trodAll_mk0), rfl, bel.frame _, fun h => by cases h⟩

theorem over : Rows.wholeReadRow.holds Tryz.pinned (OpenSpec.ofChange Rows.wholeReadSpec) :=
 OpenClaim.holds_of_wide 5 Tryz.f5 rfl rfl rfl rfl rfl rfl rfl ⟨rfl, rfl, rfl, rfl, rfl⟩ rfl rfl rfl rfl rfl (by kernel_rfl) Tryz.func5 (by kernel_rfl)
  (of_decide_eq_true (by kernel_rfl)) (by unfold Func.isWrapper; first | (rw [if_pos (by decide +kernel)]; kernel_rfl) | (rw [if_neg (by decide +kernel)]; exact ⟨rfl, rfl⟩))
  (fun os started H enc _ => lifted os started H enc)

/-- The given statement. -/
theorem proved : Rows.WholeReadSaid := over
end Go.Proofs.YtfcccfplmdjndaaGreat.wholeReadLaw
