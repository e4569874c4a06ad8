/- regex: small parts of Text. -/
import Derived.Test.YtplldfbjbekdlaaDoorRsm
import Derived.Test.YtplldfbjbekdlaaDoorDig
import Derived.Test.YtplldfbjbekdlaaDoorText2
set_option linter.unusedVariables false
set_option linter.unusedSimpArgs false
namespace Go.Proofs.YtplldfbjbekdlaaDoor
open Go.RowKit

set_option maxRecDepth 100000 in
theorem closed_any (k h : Int) (w : World) : Calls Tryd.prog 47 #[.int .i64 k, .int .i64 h] w fun e w' => e = .returned (.bool (clo k h)) ∧ w = w' := by
  by_cases h4 : k = 4
  · subst h4
    go_enter Tryd.func47, Tryd.ntmps47
    go_wp2
    go_ret
    exact ⟨by simp [clo], rfl⟩
  by_cases h3 : k = 3
  · subst h3
    go_enter Tryd.func47, Tryd.ntmps47
    go_wp2
    go_ret
    exact ⟨ret_bool (by rw [Bool.eq_iff_iff]; simp [clo]), rfl⟩
  by_cases h1 : k = 1
  · subst h1
    go_enter Tryd.func47, Tryd.ntmps47
    go_wp2
    go_ret
    exact ⟨ret_bool (by rw [Bool.eq_iff_iff]; simp [clo]), rfl⟩
  · go_enter Tryd.func47, Tryd.ntmps47
    go_wp2
    go_ret
    exact ⟨by simp [clo, h4, h3, h1], rfl⟩
theorem digT_of {n k : Nat} (hn : n < 1000) (h : IsLen n k) : lastD n k = digT n := by
  unfold digT
  rw [isLen_one h (digT_len hn)]
set_option maxRecDepth 100000 in
theorem dig_any (n : Int) (h0 : 0 ≤ n) (h1 : n < 1000) (w : World) : Calls Tryd.prog 48 #[.int .i64 n] w fun e w' => e = .returned (.string ⟨(digT n.toNat).toArray⟩) ∧ Below w.heap.size w w' := by
  obtain ⟨m, rfl⟩ : ∃ m : Nat, n = (m : Int) := ⟨n.toNat, by omega⟩
  have HD := hid (fun W => digits_any m (by omega) W)
  have hw : IntKind.u64.wrap (m : Int) = (m : Int) := by simp [IntKind.wrap, IntKind.bits, IntKind.signed]; omega
  have HT := hid (fun k (h : IsLen m k) => digT_of (by omega) h)
  go_enter Tryd.func48, Tryd.ntmps48
  go_wp2_with fail
  refine (HD.out _).mono ?_
  rintro e w2 ⟨k, hk, _, rfl, hb⟩
  rw [HT.out k hk]
  have HB := hid hb
  clear hb hk HT HD
  go_wp2
  go_ret
  exact ⟨by rw [Int.toNat_natCast]; rfl, HB.out⟩
theorem digT_short (n : Nat) : (digT n).length ≤ 3 := by
  unfold digT
  rw [lastD_len]
  split
  · decide
  · split <;> decide
theorem str5 (a b : List UInt8) : (⟨#[123]⟩ : ByteArray) ++ ⟨a.toArray⟩ ++ ⟨#[44]⟩ ++ ⟨b.toArray⟩ ++ ⟨#[125]⟩ = ⟨(123 :: (a ++ 44 :: (b ++ [125]))).toArray⟩ := by
  apply ByteArray.ext
  simp
theorem str_app (a b : List UInt8) : (⟨a.toArray⟩ : ByteArray) ++ ⟨b.toArray⟩ = ⟨(a ++ b).toArray⟩ := by
  apply ByteArray.ext
  simp
set_option maxRecDepth 100000 in
set_option maxHeartbeats 4000000 in
theorem often_any (lo hi : Int) (h0 : 0 ≤ lo) (h1 : lo ≤ 256) (h2 : hi ≤ 256) (h3 : hi < 0 ∨ lo ≤ hi) (w : World) : Calls Tryd.prog 29 #[.int .i64 lo, .int .i64 hi] w fun e w' => e = .returned (.string ⟨(oftT lo hi).toArray⟩) ∧ Below w.heap.size w w' := by
  have HL := hid (fun W => dig_any lo h0 (by omega) W)
  have HH := hid (fun (h : 0 ≤ hi) W => dig_any hi h (by omega) W)
  have hl1 := digT_short lo.toNat
  have hl2 := digT_short hi.toNat
  unfold oftT
  by_cases c1 : lo = 0 ∧ hi < 0
  · rw [if_pos c1]
    obtain ⟨rfl, c1⟩ := c1
    go_enter Tryd.func29, Tryd.ntmps29
    go_wp2
    go_ret
    exact ⟨rfl, Below.refl _ _⟩
  rw [if_neg c1]
  by_cases c2 : lo = 1 ∧ hi < 0
  · rw [if_pos c2]
    obtain ⟨rfl, c2⟩ := c2
    clear c1
    go_enter Tryd.func29, Tryd.ntmps29
    go_wp2
    go_ret
    exact ⟨rfl, Below.refl _ _⟩
  rw [if_neg c2]
  by_cases c3 : lo = 0 ∧ hi = 1
  · rw [if_pos c3]
    obtain ⟨rfl, rfl⟩ := c3
    clear c1 c2
    go_enter Tryd.func29, Tryd.ntmps29
    go_wp2
    go_ret
    exact ⟨rfl, Below.refl _ _⟩
  rw [if_neg c3]
  by_cases c4 : hi < 0
  · rw [if_pos c4]
    have d1 : ¬ lo = 0 := fun e => c1 ⟨e, c4⟩
    have d2 : ¬ lo = 1 := fun e => c2 ⟨e, c4⟩
    clear c1 c2 c3 h3 h2 HH
    generalize digT lo.toNat = dl at *
    have had0 := fun W => run_strAdd [123] dl (by simp; omega) W
    have had1 := fun W => run_strAdd (123 :: dl) [44, 125] (by simp; omega) W
    simp only [List.cons_append, List.nil_append, List.append_assoc] at had0 had1
    go_enter Tryd.func29, Tryd.ntmps29
    go_wp2_with fail
    refine (HL.out _).mono ?_
    rintro e w2 ⟨rfl, hb2⟩
    have HB2 := hid hb2
    clear hb2 HL
    go_wp2
    go_ret
    exact ⟨by first | rfl | simp, HB2.out⟩
  rw [if_neg c4]
  have HH2 := hid (HH.out (by omega))
  clear HH
  have d4 : 0 ≤ hi := by omega
  by_cases c5 : lo = hi
  · rw [if_pos c5]
    subst c5
    clear c2 c1 c4 HH2 h3 hl2
    by_cases d0 : lo = 0
    · subst d0
      clear c3
      generalize digT (0 : Int).toNat = dl at *
      have had0 := fun W => run_strAdd [123] dl (by simp; omega) W
      have had1 := fun W => run_strAdd (123 :: dl) [125] (by simp; omega) W
      simp only [List.cons_append, List.nil_append, List.append_assoc] at had0 had1
      go_enter Tryd.func29, Tryd.ntmps29
      go_wp2_with fail
      refine (HL.out _).mono ?_
      rintro e w2 ⟨rfl, hb2⟩
      have HB2 := hid hb2
      clear hb2 HL
      go_wp2
      go_ret
      exact ⟨by first | rfl | simp, HB2.out⟩
    by_cases d1 : lo = 1
    · subst d1
      clear c3
      generalize digT (1 : Int).toNat = dl at *
      have had0 := fun W => run_strAdd [123] dl (by simp; omega) W
      have had1 := fun W => run_strAdd (123 :: dl) [125] (by simp; omega) W
      simp only [List.cons_append, List.nil_append, List.append_assoc] at had0 had1
      go_enter Tryd.func29, Tryd.ntmps29
      go_wp2_with fail
      refine (HL.out _).mono ?_
      rintro e w2 ⟨rfl, hb2⟩
      have HB2 := hid hb2
      clear hb2 HL
      go_wp2
      go_ret
      exact ⟨by first | rfl | simp, HB2.out⟩
    generalize digT lo.toNat = dl at *
    have had0 := fun W => run_strAdd [123] dl (by simp; omega) W
    have had1 := fun W => run_strAdd (123 :: dl) [125] (by simp; omega) W
    simp only [List.cons_append, List.nil_append, List.append_assoc] at had0 had1
    go_enter Tryd.func29, Tryd.ntmps29
    go_wp2_with fail
    refine (HL.out _).mono ?_
    rintro e w2 ⟨rfl, hb2⟩
    have HB2 := hid hb2
    clear hb2 HL
    go_wp2
    go_ret
    exact ⟨by first | rfl | simp, HB2.out⟩
  · rw [if_neg c5]
    clear c2 c1 h3
    by_cases d0 : lo = 0
    · subst d0
      have d5 : ¬ hi = 1 := fun e => c3 ⟨rfl, e⟩
      clear c3
      generalize digT (0 : Int).toNat = dl at *
      generalize digT hi.toNat = dh at *
      have had0 := fun W => run_strAdd [123] dl (by simp; omega) W
      have had1 := fun W => run_strAdd (123 :: dl) [44] (by simp; omega) W
      have had2 := fun W => run_strAdd (123 :: (dl ++ [44])) dh (by simp; omega) W
      have had3 := fun W => run_strAdd (123 :: (dl ++ 44 :: dh)) [125] (by simp; omega) W
      simp only [List.cons_append, List.nil_append, List.append_assoc] at had0 had1 had2 had3
      go_enter Tryd.func29, Tryd.ntmps29
      go_wp2_with fail
      refine (HL.out _).mono ?_
      rintro e w2 ⟨rfl, hb2⟩
      have HB1 := hid hb2
      clear hb2
      go_wp2_with fail
      refine (HH2.out _).mono ?_
      rintro e w3 ⟨rfl, hb3⟩
      have HB2 := hid (HB1.out.trans (hb3.mono HB1.out.size))
      clear hb3 HL HH2 HB1
      go_wp2
      go_ret
      exact ⟨congrArg (fun x => Ending.returned (.string x)) (str5 dl dh), HB2.out⟩
    by_cases d1 : lo = 1
    · subst d1
      clear c3
      generalize digT (1 : Int).toNat = dl at *
      generalize digT hi.toNat = dh at *
      have had0 := fun W => run_strAdd [123] dl (by simp; omega) W
      have had1 := fun W => run_strAdd (123 :: dl) [44] (by simp; omega) W
      have had2 := fun W => run_strAdd (123 :: (dl ++ [44])) dh (by simp; omega) W
      have had3 := fun W => run_strAdd (123 :: (dl ++ 44 :: dh)) [125] (by simp; omega) W
      simp only [List.cons_append, List.nil_append, List.append_assoc] at had0 had1 had2 had3
      go_enter Tryd.func29, Tryd.ntmps29
      go_wp2_with fail
      refine (HL.out _).mono ?_
      rintro e w2 ⟨rfl, hb2⟩
      have HB1 := hid hb2
      clear hb2
      go_wp2_with fail
      refine (HH2.out _).mono ?_
      rintro e w3 ⟨rfl, hb3⟩
      have HB2 := hid (HB1.out.trans (hb3.mono HB1.out.size))
      clear hb3 HL HH2 HB1
      go_wp2
      go_ret
      exact ⟨congrArg (fun x => Ending.returned (.string x)) (str5 dl dh), HB2.out⟩
    generalize digT lo.toNat = dl at *
    generalize digT hi.toNat = dh at *
    have had0 := fun W => run_strAdd [123] dl (by simp; omega) W
    have had1 := fun W => run_strAdd (123 :: dl) [44] (by simp; omega) W
    have had2 := fun W => run_strAdd (123 :: (dl ++ [44])) dh (by simp; omega) W
    have had3 := fun W => run_strAdd (123 :: (dl ++ 44 :: dh)) [125] (by simp; omega) W
    simp only [List.cons_append, List.nil_append, List.append_assoc] at had0 had1 had2 had3
    go_enter Tryd.func29, Tryd.ntmps29
    go_wp2_with fail
    refine (HL.out _).mono ?_
    rintro e w2 ⟨rfl, hb2⟩
    have HB1 := hid hb2
    clear hb2
    go_wp2_with fail
    refine (HH2.out _).mono ?_
    rintro e w3 ⟨rfl, hb3⟩
    have HB2 := hid (HB1.out.trans (hb3.mono HB1.out.size))
    clear hb3 HL HH2 HB1
    go_wp2
    go_ret
    exact ⟨congrArg (fun x => Ending.returned (.string x)) (str5 dl dh), HB2.out⟩
end Go.Proofs.YtplldfbjbekdlaaDoor

/- regex: an expression written into a builder. -/
namespace Go.Proofs.YtplldfbjbekdlaaDoor
open Go.RowKit

/-- A part's text within one of some kind. -/
def kdT (k : Int) (t : RT) : List UInt8 := if clo t.k k then 40 :: (wrT t ++ [41]) else wrT t
theorem wrKs_snoc (k : Int) (b : Bool) (ts : List RT) (t : RT) : wrKs k b (ts ++ [t]) = wrKs k b ts ++ ((if k = 4 ∧ (b && ts.isEmpty) = false then [124] else []) ++ kdT k t) := by
  induction ts generalizing b with
  | nil =>
    rw [List.nil_append, wrKs, wrKs, wrKs, List.append_nil, List.nil_append, List.isEmpty_nil, Bool.and_true]
    rfl
  | cons x ts ih =>
    rw [List.cons_append, wrKs, ih, wrKs, List.isEmpty_cons, Bool.and_false, Bool.false_and]
    simp only [List.append_assoc]
theorem wrKs_step {k : Int} {ks : List RT} {j : Nat} (h : j < ks.length) : wrKs k true (ks.take (j + 1)) = wrKs k true (ks.take j) ++ ((if k = 4 ∧ 0 < j then [124] else []) ++ kdT k ks[j]) := by
  rw [List.take_succ_eq_append_getElem h, wrKs_snoc]
  have : ((true && (ks.take j).isEmpty) = false) ↔ 0 < j := by
    rw [Bool.true_and]
    cases j with
    | zero => simp
    | succ j =>
      have : ks.take (j + 1) ≠ [] := by
        intro e
        have := congrArg List.length e
        rw [List.length_take, List.length_nil] at this
        omega
      cases e : ks.take (j + 1) with
      | nil => exact absurd e this
      | cons a b => simp
  simp only [this]
/-- What a step of writing leaves. -/
structure Wrt1 (base b : Nat) (w : World) (l : List UInt8) (W : World) : Prop where
  bld : Bld W base b l
  bel : Below base w W
  oth : Oth b w W
theorem Wrt1.refl {base b : Nat} {w : World} {l : List UInt8} (h : Bld w base b l) : Wrt1 base b w l w := ⟨h, Below.refl _ _, Lib.OthersKept.refl _ _ _⟩
theorem Wrt1.trans {base b : Nat} {w W X : World} {l l' : List UInt8} (h : Wrt1 base b w l W) (h2 : Wrt1 base b W l' X) : Wrt1 base b w l' X := ⟨h2.bld, h.bel.trans h2.bel, h.oth.trans h2.oth⟩
theorem oth_below {b : Nat} {w W X : World} (h : Oth b w W) (hb : Below W.heap.size W X) : Oth b w X := fun k o hk hn ho => by
  have h1 := h k o hk hn ho
  exact (hb.block k (Array.getElem?_eq_some_iff.1 h1).1).trans h1
theorem Wrt1.below {base b : Nat} {w W X : World} {l : List UInt8} (h : Wrt1 base b w l W) (hb : Below W.heap.size W X) (hB : base ≤ W.heap.size) : Wrt1 base b w l X := ⟨h.bld.below hb, h.bel.trans (hb.mono hB), oth_below h.oth hb⟩
/-- A box is kept. -/
theorem Wrt1.box {base b : Nat} {w W : World} {l : List UInt8} {g : Nat} {cs : List Value} (h : Wrt1 base b w l W) (hk : Blk w g 27 cs) (hg : g ≠ b) : Blk W g 27 cs :=
  h.oth _ _ hk (fun e => by injection e with e; exact hg e) (fun c fz e => by injection e with _ e; exact absurd e (by decide))
theorem Rep.lo {w W : World} {base : Nat} {v : RV} {t : RT} (h : Rep w (· < base) v t) (hb : Below base w W) : Rep W (· < base) v t := h.mono hb.size (fun b hp _ => hb.block b hp) (fun _ h _ => h)
theorem RepL.lo {w W : World} {base : Nat} {A : Option Addr} {ks : List RT} {vs : Nat → RV} (h : RepL w (· < base) A ks vs) (hb : Below base w W) : RepL W (· < base) A ks vs := by
  refine ⟨fun h0 => ?_, fun j hj => (h.2 j hj).lo hb⟩
  obtain ⟨b, o, e, hl, hp, hc⟩ := h.1 h0
  exact ⟨b, o, e, Nat.lt_of_lt_of_le hl hb.size, hp, fun j hj => (hc j hj).block (hb.block b hp)⟩
theorem tab_lo {w W : World} {base : Nat} (h : TabAt w) (hb : Below base w W) (ht : 0 < base) : TabAt W := h.below ht hb
/-- What write promises of an expression. -/
def WrAt (t : RT) : Prop := ∀ (v : RV) (w : World) (base b : Nat) (l : List UInt8), Bld w base b l → Rep w (· < base) v t → base ≤ w.heap.size → TabAt w → 0 < base → wgT t = 0 → szT t ≤ 512 → l.length + (wrT t).length ≤ 1000000000 →
  Calls Tryd.prog 16 #[.pointer (some ⟨b, 0, none⟩), v.val] w fun e w' => e = .returned (.tuple #[]) ∧ Wrt1 base b w (l ++ wrT t) w'

set_option maxRecDepth 100000 in
set_option maxHeartbeats 4000000 in
theorem kid_any {t : RT} (ih : WrAt t) (v : RV) (w : World) (base b : Nat) (l : List UInt8) (k : Int) (h : Bld w base b l) (hR : Rep w (· < base) v t) (hB : base ≤ w.heap.size) (hT : TabAt w) (ht : 0 < base) (hw : wgT t = 0) (hs : szT t ≤ 512) (hl : l.length + (kdT k t).length ≤ 1000000000) :
    Calls Tryd.prog 28 #[.pointer (some ⟨b, 0, none⟩), v.val, .int .i64 k] w fun e w' => e = .returned (.tuple #[]) ∧ Wrt1 base b w (l ++ kdT k t) w' := by
  obtain ⟨hb, hN⟩ := box_new w v
  have hvk : v.k = t.k := by
    cases hR with
    | mk v ks vs _ _ _ => rfl
  have hx := Blk.cells8' (v := v) hN
  have hbb := h.lt
  have hs1 : (w.alloc (.cells v.cells.toArray 27)).heap.size = w.heap.size + 1 := by simp
  have HW := hid ((Wrt1.refl h).below hb hB)
  have HX := hid hN
  have HR := hid (hR.lo (hb.mono hB))
  have HT := hid (tab_lo hT (hb.mono hB) ht)
  have HC := hid (fun W => closed_any v.k k W)
  have HK : Hid (kdT k t = if clo v.k k = true then 40 :: (wrT t ++ [41]) else wrT t) := hid (by rw [hvk]; rfl)
  clear hb hN hR hT h hvk
  unfold RV.val
  rw [show (#[.int .i64 v.k, .int .u64 ((wd v.s 0 : Nat) : Int), .int .u64 ((wd v.s 1 : Nat) : Int), .int .u64 ((wd v.s 2 : Nat) : Int), .int .u64 ((wd v.s 3 : Nat) : Int), .slice v.A v.n v.c, .int .i64 v.lo, .int .i64 v.hi] : Array Value) = v.cells.toArray from rfl]
  go_enter Tryd.func28, Tryd.ntmps28
  go_upto_region 1 with (fail)
  change Code.wp _ _ _ _ (w.alloc (.cells v.cells.toArray 27))
  generalize w.alloc (.cells v.cells.toArray 27) = w1 at *
  obtain ⟨x0, x1, x2, x3, x4, x5, x6, x7⟩ := hx
  go_wp2_with fail
  refine (HC.out _).mono ?_
  rintro e w2 ⟨rfl, rfl⟩
  have hsb := HW.out.bel.size
  cases hc : clo v.k k
  · rw [hc] at HK
    have HK2 : Hid (kdT k t = wrT t) := hid HK.out
    clear HK HC
    rw [HK2.out] at hl
    have HIH := hid (ih v w1 base b l HW.out.bld HR.out (by omega) HT.out ht hw hs hl)
    unfold RV.val at HIH
    clear ih
    go_wp2_with fail
    refine HIH.out.mono ?_
    rintro e w3 ⟨rfl, hw3⟩
    have HW3 := hid (HW.out.trans hw3)
    clear hw3 HIH
    go_wp2
    refine bodyPost_ret (results_none rfl _ _ _) rfl ?_
    exact ⟨rfl, by rw [HK2.out]; exact HW3.out⟩
  · rw [hc] at HK
    have HK2 : Hid (kdT k t = 40 :: (wrT t ++ [41])) := hid HK.out
    clear HK HC
    rw [HK2.out] at hl
    simp at hl
    have HWB := hid (wb_any HW.out.bld 40 (by decide) (by omega) (by omega))
    go_wp2_with fail
    refine HWB.out.mono ?_
    rintro e w3 ⟨rfl, hbl3, hbe3, ho3⟩
    have hw3 : Wrt1 base b w1 (l ++ [40]) w3 := ⟨.inr hbl3, hbe3, ho3⟩
    have HX3 := hid (hw3.box HX.out (by omega))
    clear x0 x1 x2 x3 x4 x5 x6 x7 HWB
    obtain ⟨x0, x1, x2, x3, x4, x5, x6, x7⟩ := Blk.cells8' HX3.out
    have HIH := hid (ih v w3 base b (l ++ [40]) hw3.bld (HR.out.lo hbe3) (by have := hbe3.size; omega) (tab_lo HT.out hbe3 ht) ht hw hs (by simp; omega))
    have HW3 := hid (HW.out.trans hw3)
    have hsb3 := hbe3.size
    clear hw3 hbl3 hbe3 ho3 ih
    unfold RV.val at HIH
    go_wp2_with fail
    refine HIH.out.mono ?_
    rintro e w4 ⟨rfl, hw4⟩
    have HW4 := hid (HW3.out.trans hw4)
    have hsb4 := hw4.bel.size
    clear hw4 HIH x0 x1 x2 x3 x4 x5 x6 x7
    have HWB := hid (wb_any HW4.out.bld 41 (by decide) (by simp; omega) (by omega))
    go_wp2_with fail
    refine HWB.out.mono ?_
    rintro e w5 ⟨rfl, hbl5, hbe5, ho5⟩
    have HW5 := hid (HW4.out.trans ⟨.inr hbl5, hbe5, ho5⟩)
    clear hbl5 hbe5 ho5 HWB
    go_wp2
    go_end0
    exact ⟨rfl, by rw [HK2.out]; simpa using HW5.out⟩
end Go.Proofs.YtplldfbjbekdlaaDoor

/- regex: write, whole. -/
namespace Go.Proofs.YtplldfbjbekdlaaDoor
open Go.RowKit

theorem box_kid (wr : World) (x : RV) : Below wr.heap.size wr ((wr.alloc (.cells #[.int .i64 0, .int .u64 0, .int .u64 0, .int .u64 0, .int .u64 0, .slice none 0 0, .int .i64 0, .int .i64 0] 27)).setRow wr.heap.size x.cells.toArray) ∧ Blk ((wr.alloc (.cells #[.int .i64 0, .int .u64 0, .int .u64 0, .int .u64 0, .int .u64 0, .slice none 0 0, .int .i64 0, .int .i64 0] 27)).setRow wr.heap.size x.cells.toArray) wr.heap.size 27 x.cells :=
  ⟨row_new wr _ _ _, setRow_heap _ _ _ _ _ (0, 0) (heap_alloc_new wr _)⟩
theorem kd_le {k : Int} {ks : List RT} {j : Nat} (h : j < ks.length) : (wrKs k true (ks.take (j + 1))).length = (wrKs k true (ks.take j)).length + (if k = 4 ∧ 0 < j then [124] else ([] : List UInt8)).length + (kdT k ks[j]).length := by
  rw [wrKs_step h]
  simp only [List.length_append]
  omega
theorem wrKs_take_le (k : Int) (ks : List RT) (j : Nat) : (wrKs k true (ks.take j)).length ≤ (wrKs k true ks).length := by
  have key : ∀ (ts us : List RT) b, (wrKs k b ts).length ≤ (wrKs k b (ts ++ us)).length := by
    intro ts us
    induction ts with
    | nil => intro b; rw [wrKs]; simp
    | cons t ts ih =>
      intro b
      rw [List.cons_append, wrKs, wrKs]
      simp only [List.length_append]
      have := ih false
      omega
  have := key (ks.take j) (ks.drop j) true
  rwa [List.take_append_drop] at this
set_option maxRecDepth 100000 in
set_option maxHeartbeats 8000000 in
theorem write_any : ∀ t, WrAt t := by
  refine RT.ind fun k s ks lo hi ih => ?_
  intro v w base b l h hR hB hT ht hw hs hl
  obtain ⟨rfl, rfl, rfl, rfl, hn, vs, hA, hk⟩ := hR.inv
  have HRL := hid (Rep.row hn hA hk)
  have hck := (wgT_nd hw).1
  have hwk := (wgT_nd hw).2
  have hkinds := ck1_kinds hck
  rw [szT] at hs
  have HTx : Hid (wrT (.nd v.k v.s ks v.lo v.hi) = (if v.k = 2 then textL v.s else []) ++ (wrKs v.k true ks ++ (if v.k = 5 then oftT v.lo v.hi else []))) := hid (by rw [wrT])
  generalize wrT (.nd v.k v.s ks v.lo v.hi) = TX at *
  obtain ⟨hb, hN⟩ := box_new w v
  have hx := Blk.cells8' (v := v) hN
  have hbb := h.lt
  have hs1 : (w.alloc (.cells v.cells.toArray 27)).heap.size = w.heap.size + 1 := by simp
  have HW := hid ((Wrt1.refl h).below hb hB)
  have HX := hid hN
  have HT := hid (tab_lo hT (hb.mono hB) ht)
  have HT0 := hid hT
  have hnl := szL_len ks
  clear hb hN hR hT h hA hk hck hw
  unfold RV.val
  rw [show (#[.int .i64 v.k, .int .u64 ((wd v.s 0 : Nat) : Int), .int .u64 ((wd v.s 1 : Nat) : Int), .int .u64 ((wd v.s 2 : Nat) : Int), .int .u64 ((wd v.s 3 : Nat) : Int), .slice v.A v.n v.c, .int .i64 v.lo, .int .i64 v.hi] : Array Value) = v.cells.toArray from rfl]
  by_cases h2 : v.k = 2
  · obtain ⟨rfl, hse⟩ : ks = [] ∧ v.s ≠ 0#256 := by
      rcases hkinds with ⟨e, _⟩ | ⟨_, e, e2⟩ | ⟨e, _⟩ | ⟨e, _⟩ | ⟨e, _⟩
      · omega
      · exact ⟨e, e2⟩
      · omega
      · omega
      · omega
    have hn0 : v.n = 0 := by simpa using hn.symm
    have HTy : Hid (TX = textL v.s) := hid (by rw [HTx.out, if_pos h2, if_neg (by omega), wrKs]; simp)
    rw [HTy.out] at hl
    have HTe := hid (fun W (h : TabAt W) => text_any v.s h)
    unfold setV at HTe
    clear HTx ih hwk hkinds HRL
    go_enter Tryd.func16, Tryd.ntmps16
    go_upto_region 1 with (fail)
    change Code.wp _ _ _ _ (w.alloc (.cells v.cells.toArray 27))
    generalize w.alloc (.cells v.cells.toArray 27) = w1 at *
    obtain ⟨x0, x1, x2, x3, x4, x5, x6, x7⟩ := hx
    rw [h2] at x0
    go_wp2_with fail
    refine (HTe.out _ HT.out).mono ?_
    rintro e w2 ⟨rfl, hb2⟩
    have hsb := HW.out.bel.size
    have HW2 := hid (HW.out.below hb2 (by omega))
    have HX2 := hid ((hb2.block _ HX.out.lt).trans HX.out)
    have hsb2 := hb2.size
    clear hb2 HTe HT
    have HWS := hid (ws_any HW2.out.bld (textL v.s) (by omega) (by omega))
    clear x0 x1 x2 x3 x4 x5 x6 x7
    obtain ⟨x0, x1, x2, x3, x4, x5, x6, x7⟩ := Blk.cells8' HX2.out
    go_wp2_with fail
    refine HWS.out.mono ?_
    rintro e w3 ⟨rfl, hbl3, hbe3, ho3⟩
    have hw3 : Wrt1 base b w2 (l ++ textL v.s) w3 := ⟨.inr hbl3, hbe3, ho3⟩
    have HX3 := hid (hw3.box HX2.out (by omega))
    have HW3 := hid (HW2.out.trans hw3)
    clear x0 x1 x2 x3 x4 x5 x6 x7 HWS hw3 hbl3 hbe3 ho3 HX2 HW2 HX HW
    obtain ⟨x0, x1, x2, x3, x4, x5, x6, x7⟩ := Blk.cells8' HX3.out
    rw [h2] at x0
    rw [hn0] at x5
    go_wp2_with fail
    go_loopw [17] (fun i wr => i = .int .i64 0 ∧ Hid (Wrt1 base b w (l ++ textL v.s) wr) ∧ Hid (Blk wr w.heap.size 27 v.cells)) (fun i _ => 0)
    case atStart => exact ⟨rfl, HW3, HX3⟩
    case round =>
      obtain ⟨rfl, HW4, HX4⟩ := hrel
      clear x0 x1 x2 x3 x4 x5 x6 x7 HX3 HW3
      obtain ⟨x0, x1, x2, x3, x4, x5, x6, x7⟩ := Blk.cells8' HX4.out
      rw [h2] at x0
      go_wp2
      go_end0
      exact ⟨rfl, by rw [HTy.out]; exact HW4.out⟩
  · have HTy : Hid (TX = wrKs v.k true ks ++ (if v.k = 5 then oftT v.lo v.hi else [])) := hid (by rw [HTx.out, if_neg h2]; rfl)
    clear HTx
    rw [HTy.out, List.length_append] at hl
    have HOf := hid (fun (h5 : v.k = 5) W => (by
      rcases hkinds with ⟨e, _⟩ | ⟨e, _⟩ | ⟨e, _⟩ | ⟨e, _⟩ | ⟨_, x, _, c1, c2, c3, c4⟩
      · omega
      · omega
      · omega
      · omega
      · exact often_any v.lo v.hi c1 c2 c3 c4 W : Calls Tryd.prog 29 #[.int .i64 v.lo, .int .i64 v.hi] W fun e w' => e = .returned (.string ⟨(oftT v.lo v.hi).toArray⟩) ∧ Below W.heap.size W w'))
    clear hkinds
    have hn1 : v.n ≤ 511 := by omega
    have hk2 : (v.k == 2) = false := by simp [h2]
    go_enter Tryd.func16, Tryd.ntmps16
    go_upto_region 1 with (fail)
    change Code.wp _ _ _ _ (w.alloc (.cells v.cells.toArray 27))
    generalize w.alloc (.cells v.cells.toArray 27) = w1 at *
    obtain ⟨x0, x1, x2, x3, x4, x5, x6, x7⟩ := hx
    go_wp2_with fail
    clear x0 x1 x2 x3 x4 x5 x6 x7 HT
    go_loopw [17] (fun i wr => ∃ j : Nat, j ≤ v.n ∧ i = .int .i64 j ∧ Hid (Wrt1 base b w (l ++ wrKs v.k true (ks.take j)) wr) ∧ Hid (Blk wr w.heap.size 27 v.cells)) (fun i _ => v.n - (intOf i).toNat)
    case atStart => exact ⟨0, by omega, rfl, by rw [List.take_zero, wrKs, List.append_nil]; exact HW, HX⟩
    case round =>
      clear HW HX
      obtain ⟨j, hj, rfl, HWr, HXr⟩ := hrel
      by_cases hlt : j < v.n
      · obtain ⟨b1, o1, hAe, hbl, hp, hrow⟩ := HRL.out.1 (by omega)
        have hjk : j < ks.length := by omega
        obtain ⟨z0, z1, z2, z3, z4, z5, z6, z7⟩ := ((hrow j hjk).block (HWr.out.bel.block b1 hp)).cells8
        obtain ⟨hbx, hx5⟩ := box_kid wr (vs j)
        have hsr := HWr.out.bel.size
        have HX5 := hid hx5
        have HW5 := hid (HWr.out.below hbx (by omega))
        have HXn5 := hid ((hbx.block _ HXr.out.lt).trans HXr.out)
        have HSz := hid (rx_size (vs j))
        have HOne := hid (rx_one (vs j))
        have hwl := HXr.out.lt
        have hs5 := hbx.size
        generalize hxx : vs j = x at *
        rw [hAe]
        have hszj : szT ks[j] ≤ 512 := by have h1 := szL_take ks j hjk; have h2 := szL_take_le ks (j + 1); omega
        clear hrow hbx hx5
        by_cases h4 : v.k = 4
        · have hk4 : (v.k == 4) = true := by simp [h4]
          have H4 := hid h4
          clear h4
          by_cases h0 : 0 < j
          · have HST := hid (show wrKs v.k true (ks.take (j + 1)) = wrKs v.k true (ks.take j) ++ ([124] ++ kdT v.k ks[j]) by rw [wrKs_step hjk, if_pos ⟨H4.out, h0⟩])
            have HLEN : Hid (l.length + (wrKs v.k true (ks.take j)).length + 1 + (kdT v.k ks[j]).length ≤ 1000000000) := hid (by have h1 := congrArg List.length HST.out; have h2 := wrKs_take_le v.k ks (j + 1); simp only [List.length_append, List.length_cons, List.length_nil] at h1; omega)
            go_wp2_with (refine wpList_store_row rfl 27 _ _ rfl wr.heap.size x.cells.toArray ?_ ?_ 27 #[.int .i64 0, .int .u64 0, .int .u64 0, .int .u64 0, .int .u64 0, .slice none 0 0, .int .i64 0, .int .i64 0] (heap_alloc_new wr _) HSz.out ?_ HOne.out ?_; exact rfl; exact rfl; exact rfl; generalize (wr.alloc (.cells #[.int .i64 0, .int .u64 0, .int .u64 0, .int .u64 0, .int .u64 0, .slice none 0 0, .int .i64 0, .int .i64 0] 27)).setRow wr.heap.size x.cells.toArray = w5 at *; obtain ⟨y0, y1, y2, y3, y4, y5, y6, y7⟩ := Blk.cells8' HX5.out; obtain ⟨x0, x1, x2, x3, x4, x5, x6, x7⟩ := Blk.cells8' HXn5.out)
            have HWB := hid (wb_any HW5.out.bld 124 (by decide) (by have h1 := HLEN.out; simp; omega) (by omega))
            refine HWB.out.mono ?_
            rintro e w6 ⟨rfl, hbl6, hbe6, ho6⟩
            have hw6 : Wrt1 base b w5 (l ++ wrKs v.k true (ks.take j) ++ [124]) w6 := ⟨.inr hbl6, hbe6, ho6⟩
            have HW6 := hid (HW5.out.trans hw6)
            have HXn6 := hid (hw6.box HXn5.out (by omega))
            have HX6 := hid (hw6.box HX5.out (by omega))
            clear x0 x1 x2 x3 x4 x5 x6 x7 y0 y1 y2 y3 y4 y5 y6 y7 hw6 hbl6 hbe6 ho6 HWB
            obtain ⟨y0, y1, y2, y3, y4, y5, y6, y7⟩ := Blk.cells8' HX6.out
            obtain ⟨x0, x1, x2, x3, x4, x5, x6, x7⟩ := Blk.cells8' HXn6.out
            have HKD := hid (kid_any (ih ks[j] (List.getElem_mem _)) x w6 base b (l ++ wrKs v.k true (ks.take j) ++ [124]) v.k HW6.out.bld (hxx ▸ (HRL.out.2 j hjk).lo HW6.out.bel) (by have := HW6.out.bel.size; omega) (tab_lo HT0.out HW6.out.bel ht) ht (hwk ks[j] (List.getElem_mem _)) hszj (by have h1 := HLEN.out; simp; omega))
            unfold RV.val at HKD
            go_wp2_with fail
            refine HKD.out.mono ?_
            rintro e w8 ⟨rfl, hw8⟩
            have HX8 := hid (hw8.box HXn6.out (by omega))
            have HW8 := hid (HW6.out.trans hw8)
            clear hw8 HKD x0 x1 x2 x3 x4 x5 x6 x7 y0 y1 y2 y3 y4 y5 y6 y7 z0 z1 z2 z3 z4 z5 z6 z7
            go_wp2_with fail
            go_roundw
            case rel => exact ⟨j + 1, by omega, by go_num, hid (by have h := HW8.out; rw [HST.out]; simpa using h), HX8⟩
            case measure => simp [intOf]; omega
          · have HST := hid (show wrKs v.k true (ks.take (j + 1)) = wrKs v.k true (ks.take j) ++ ([] ++ kdT v.k ks[j]) by rw [wrKs_step hjk, if_neg (fun h => h0 h.2)])
            have HLEN : Hid (l.length + (wrKs v.k true (ks.take j)).length + (kdT v.k ks[j]).length ≤ 1000000000) := hid (by have h1 := congrArg List.length HST.out; have h2 := wrKs_take_le v.k ks (j + 1); simp only [List.length_append, List.length_nil] at h1; omega)
            go_wp2_with (refine wpList_store_row rfl 27 _ _ rfl wr.heap.size x.cells.toArray ?_ ?_ 27 #[.int .i64 0, .int .u64 0, .int .u64 0, .int .u64 0, .int .u64 0, .slice none 0 0, .int .i64 0, .int .i64 0] (heap_alloc_new wr _) HSz.out ?_ HOne.out ?_; exact rfl; exact rfl; exact rfl; generalize (wr.alloc (.cells #[.int .i64 0, .int .u64 0, .int .u64 0, .int .u64 0, .int .u64 0, .slice none 0 0, .int .i64 0, .int .i64 0] 27)).setRow wr.heap.size x.cells.toArray = w5 at *; obtain ⟨y0, y1, y2, y3, y4, y5, y6, y7⟩ := Blk.cells8' HX5.out; obtain ⟨x0, x1, x2, x3, x4, x5, x6, x7⟩ := Blk.cells8' HXn5.out)
            have HKD := hid (kid_any (ih ks[j] (List.getElem_mem _)) x w5 base b (l ++ wrKs v.k true (ks.take j)) v.k HW5.out.bld (hxx ▸ (HRL.out.2 j hjk).lo HW5.out.bel) (by have := HW5.out.bel.size; omega) (tab_lo HT0.out HW5.out.bel ht) ht (hwk ks[j] (List.getElem_mem _)) hszj (by have h1 := HLEN.out; simp; omega))
            unfold RV.val at HKD
            refine HKD.out.mono ?_
            rintro e w8 ⟨rfl, hw8⟩
            have HX8 := hid (hw8.box HXn5.out (by omega))
            have HW8 := hid (HW5.out.trans hw8)
            clear hw8 HKD x0 x1 x2 x3 x4 x5 x6 x7 y0 y1 y2 y3 y4 y5 y6 y7 z0 z1 z2 z3 z4 z5 z6 z7
            go_wp2_with fail
            go_roundw
            case rel => exact ⟨j + 1, by omega, by go_num, hid (by have h := HW8.out; rw [HST.out]; simpa using h), HX8⟩
            case measure => simp [intOf]; omega
        · have HST := hid (show wrKs v.k true (ks.take (j + 1)) = wrKs v.k true (ks.take j) ++ ([] ++ kdT v.k ks[j]) by rw [wrKs_step hjk, if_neg (fun h => h4 h.1)])
          have HLEN : Hid (l.length + (wrKs v.k true (ks.take j)).length + (kdT v.k ks[j]).length ≤ 1000000000) := hid (by have h1 := congrArg List.length HST.out; have h2 := wrKs_take_le v.k ks (j + 1); simp only [List.length_append, List.length_nil] at h1; omega)
          go_wp2_with (refine wpList_store_row rfl 27 _ _ rfl wr.heap.size x.cells.toArray ?_ ?_ 27 #[.int .i64 0, .int .u64 0, .int .u64 0, .int .u64 0, .int .u64 0, .slice none 0 0, .int .i64 0, .int .i64 0] (heap_alloc_new wr _) HSz.out ?_ HOne.out ?_; exact rfl; exact rfl; exact rfl; generalize (wr.alloc (.cells #[.int .i64 0, .int .u64 0, .int .u64 0, .int .u64 0, .int .u64 0, .slice none 0 0, .int .i64 0, .int .i64 0] 27)).setRow wr.heap.size x.cells.toArray = w5 at *; obtain ⟨y0, y1, y2, y3, y4, y5, y6, y7⟩ := Blk.cells8' HX5.out; obtain ⟨x0, x1, x2, x3, x4, x5, x6, x7⟩ := Blk.cells8' HXn5.out)
          have HKD := hid (kid_any (ih ks[j] (List.getElem_mem _)) x w5 base b (l ++ wrKs v.k true (ks.take j)) v.k HW5.out.bld (hxx ▸ (HRL.out.2 j hjk).lo HW5.out.bel) (by have := HW5.out.bel.size; omega) (tab_lo HT0.out HW5.out.bel ht) ht (hwk ks[j] (List.getElem_mem _)) hszj (by have h1 := HLEN.out; simp; omega))
          unfold RV.val at HKD
          refine HKD.out.mono ?_
          rintro e w8 ⟨rfl, hw8⟩
          have HX8 := hid (hw8.box HXn5.out (by omega))
          have HW8 := hid (HW5.out.trans hw8)
          clear hw8 HKD x0 x1 x2 x3 x4 x5 x6 x7 y0 y1 y2 y3 y4 y5 y6 y7 z0 z1 z2 z3 z4 z5 z6 z7
          go_wp2_with fail
          go_roundw
          case rel => exact ⟨j + 1, by omega, by go_num, hid (by have h := HW8.out; rw [HST.out]; simpa using h), HX8⟩
          case measure => simp [intOf]; omega
      · obtain rfl : j = v.n := by omega
        have htk : ks.take v.n = ks := List.take_of_length_le (by omega)
        rw [htk] at HWr
        obtain ⟨x0, x1, x2, x3, x4, x5, x6, x7⟩ := Blk.cells8' HXr.out
        have hsr := HWr.out.bel.size
        by_cases h5 : v.k = 5
        · have HTz : Hid (TX = wrKs v.k true ks ++ oftT v.lo v.hi) := hid (by rw [HTy.out, if_pos h5])
          rw [if_pos h5] at hl
          have HO2 := hid (HOf.out h5)
          clear HOf HTy
          go_wp2_with fail
          refine (HO2.out _).mono ?_
          rintro e w6 ⟨rfl, hb6⟩
          have hs6 := hb6.size
          have HW6 := hid (HWr.out.below hb6 (by omega))
          have HWS := hid (ws_any HW6.out.bld (oftT v.lo v.hi) (by simp; omega) (by omega))
          clear hb6 HO2
          go_wp2_with fail
          refine HWS.out.mono ?_
          rintro e w7 ⟨rfl, hbl7, hbe7, ho7⟩
          have HW7 := hid (HW6.out.trans ⟨.inr hbl7, hbe7, ho7⟩)
          clear hbl7 hbe7 ho7 HWS
          go_wp2
          go_end0
          exact ⟨rfl, by have h := HW7.out; rw [HTz.out]; simpa using h⟩
        · have HTz : Hid (TX = wrKs v.k true ks) := hid (by rw [HTy.out, if_neg h5, List.append_nil])
          clear HOf HTy
          go_wp2
          go_end0
          exact ⟨rfl, by have h := HWr.out; rw [HTz.out]; exact h⟩
end Go.Proofs.YtplldfbjbekdlaaDoor

/- regex: Text. -/
namespace Go.Proofs.YtplldfbjbekdlaaDoor
open Go.RowKit

theorem lastD_le (n : Nat) : (digT n).length ≤ 3 := digT_short n
theorem oftT_len (lo hi : Int) : (oftT lo hi).length ≤ 9 := by
  have h1 := digT_short lo.toNat
  have h2 := digT_short hi.toNat
  unfold oftT
  split
  · simp
  · split
    · simp
    · split
      · simp
      · split
        · simp; omega
        · split
          · simp; omega
          · simp; omega
theorem textL_len (a : BS) : (textL a).length ≤ 2400 := by
  have h1 := pieces_len a (bytesOf a)
  have h2 := bytesOf_len a
  have h3 := nameL_len (firstN a)
  unfold textL
  split
  · simp
  · split
    · omega
    · simp; omega
theorem wrT_len : ∀ t, (wrT t).length + 3 ≤ 2500 * szT t := by
  refine RT.ind fun k s ks lo hi ih => ?_
  have key : ∀ b, (wrKs k b ks).length ≤ 2500 * szL ks := by
    induction ks with
    | nil => intro b; rw [wrKs]; simp
    | cons t ts ih2 =>
      intro b
      have h1 := ih t (by simp)
      have h2 := ih2 (fun x hx => ih x (List.mem_cons_of_mem _ hx)) false
      rw [wrKs, szL]
      simp only [List.length_append]
      have h3 : (if k = 4 ∧ b = false then [124] else ([] : List UInt8)).length ≤ 1 := by split <;> simp
      have h4 : (if clo t.k k then 40 :: (wrT t ++ [41]) else wrT t).length ≤ (wrT t).length + 2 := by split <;> simp
      omega
  have h1 := key true
  have h2 := textL_len s
  have h3 := oftT_len lo hi
  rw [wrT, szT]
  simp only [List.length_append]
  have h4 : (if k = 2 then textL s else []).length ≤ 2400 := by split; exact h2; simp
  have h5 : (if k = 5 then oftT lo hi else []).length ≤ 9 := by split; exact h3; simp
  omega

set_option maxRecDepth 100000 in
set_option maxHeartbeats 4000000 in
/-- An expression's text. -/
theorem Text_any {w : World} {P : Nat → Prop} {v : RV} {t : RT} (h : Rep w P v t) (hP : ∀ b, P b → b < w.heap.size) (hT : TabAt w) (hw : wgT t = 0) (hs : szT t ≤ 512) :
    Calls Tryd.prog 9 #[v.val] w fun e w' => e = .returned (.string ⟨(wrT t).toArray⟩) ∧ Below w.heap.size w w' := by
  obtain ⟨hb, hN⟩ := box_new w v
  have hx := Blk.cells8' (v := v) hN
  have hs1 : (w.alloc (.cells v.cells.toArray 27)).heap.size = w.heap.size + 1 := by simp
  have hlen := wrT_len t
  have HB := hid hb
  have HX := hid hN
  have HR := hid ((h.keep hb).mono (Q := (· < w.heap.size)) (Nat.le_refl _) (fun _ _ _ => rfl) (fun b hb _ => hP b hb))
  have HT := hid (hT.keep hb)
  have hTl := hT.lt
  have HC := hid (fun W (hW : Rep W (· < w.heap.size) v t) (hl : w.heap.size ≤ W.heap.size) => Check_any hW (fun b hb => by have h : b < w.heap.size := hb; omega) hs)
  rw [hw] at HC
  clear hN hb h hP hT
  unfold RV.val at HC ⊢
  rw [show (#[.int .i64 v.k, .int .u64 ((wd v.s 0 : Nat) : Int), .int .u64 ((wd v.s 1 : Nat) : Int), .int .u64 ((wd v.s 2 : Nat) : Int), .int .u64 ((wd v.s 3 : Nat) : Int), .slice v.A v.n v.c, .int .i64 v.lo, .int .i64 v.hi] : Array Value) = v.cells.toArray from rfl]
  go_enter Tryd.func9, Tryd.ntmps9
  go_upto_region 1 with (fail)
  change Code.wp _ _ _ _ (w.alloc (.cells v.cells.toArray 27))
  generalize w.alloc (.cells v.cells.toArray 27) = w1 at *
  obtain ⟨x0, x1, x2, x3, x4, x5, x6, x7⟩ := hx
  go_wp2_with fail
  refine (HC.out _ HR.out (by omega)).mono ?_
  rintro e w2 ⟨rfl, hb2⟩
  have HX2 := hid (show Blk w2 w.heap.size 27 v.cells from (hb2.block _ HX.out.lt).trans HX.out)
  have HB2 := hid (HB.out.trans (hb2.mono HB.out.size))
  have HR2 := hid (HR.out.keep hb2)
  have HT2 := hid (HT.out.keep hb2)
  have hs2 := hb2.size
  clear x0 x1 x2 x3 x4 x5 x6 x7 hb2 HC HX HB HR HT
  have hal : Below w2.heap.size w2 (w2.alloc (.cells #[.pointer none, .slice none 0 0] bldT)) := (Below.refl _ _).alloc (Nat.le_refl _) _
  have HX3 := hid ((hal.block _ HX2.out.lt).trans HX2.out)
  have HB3 := hid (HB2.out.trans (hal.mono HB2.out.size))
  have HW := hid (write_any t v _ w.heap.size w2.heap.size [] (.inl ⟨HB2.out.size, rfl, heap_alloc_new w2 _⟩) (HR2.out.keep hal) (by simp; omega) (HT2.out.keep hal) hTl hw hs (by simp; omega))
  unfold RV.val at HW
  have hs3 : (w2.alloc (.cells #[.pointer none, .slice none 0 0] bldT)).heap.size = w2.heap.size + 1 := by simp
  clear hal
  obtain ⟨x0, x1, x2, x3, x4, x5, x6, x7⟩ := Blk.cells8' HX3.out
  unfold bldT at HW x0 x1 x2 x3 x4 x5 x6 x7 HB3 hs3
  go_wp2_with fail
  refine HW.out.mono ?_
  rintro e w4 ⟨rfl, hw4⟩
  have HB4 := hid (HB3.out.trans hw4.bel)
  have hs4 := hw4.bel.size
  have HS := hid (bstr_any hw4.bld (by omega))
  clear hw4 HW HB3 x0 x1 x2 x3 x4 x5 x6 x7
  go_wp2_with fail
  refine HS.out.mono ?_
  rintro e w5 ⟨rfl, hb5, _⟩
  have HB5 := hid (HB4.out.trans hb5)
  clear hb5 HS HB4
  go_wp2
  go_ret
  exact ⟨by simp, HB5.out⟩
end Go.Proofs.YtplldfbjbekdlaaDoor
