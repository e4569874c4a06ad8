/- tree: a number, and bytes, of a text. -/
import Derived.Test.YtdhipmdapodpkaaTrQ
import Derived.Test.YtdhipmdapodpkaaTrBl
import Derived.Deep.LoopGhost
import Derived.Deep.CutRange
import Derived.Maps.AppendAt
namespace Go.Proofs.Ytdhipmdapodpkaa
set_option linter.unusedSimpArgs false
set_option linter.unusedVariables false
open Go.RowKit

theorem mid_str (s : ByteArray) (i e : Nat) (h : i ≤ e) (h2 : e ≤ s.size) : s.extract i e = ⟨((s.data.toList.drop i).take (e - i)).toArray⟩ := by
  apply ByteArray.ext
  rw [ByteArray.data_extract]
  apply Array.toList_inj.1
  simp only [Array.toList_extract, List.extract_eq_take_drop]
theorem numT_cases (l : List UInt8) (i : Nat) (hs : (⟨(digs l i).toArray⟩ : ByteArray).size ≤ 1048576) : ∃ (pv pe : Nat),
    Hid (∀ W : World, Calls Try.prog 41 #[.string ⟨(digs l i).toArray⟩] W fun e w' => e = .returned (.tuple #[.int .u64 (pv : Int), .int .i64 (pe : Int)]) ∧ w' = W) ∧
    ((pe = 0 ∧ pNumT l i = .ok (pv, digEnd l (l.length + 1) i)) ∨ (pe ≠ 0 ∧ pv = 0 ∧ pNumT l i = .error pe)) := by
  have hm : (⟨(digs l i).toArray⟩ : ByteArray).size ≤ maxLen := by unfold maxLen; omega
  have hd : (⟨(digs l i).toArray⟩ : ByteArray).data.toList = digs l i := rfl
  by_cases hw : Wrt (digs l i)
  · have hb := (wrtB_iff _ digs_all).2 hw
    by_cases hv : valL (digs l i) < 18446744073709551616
    · exact ⟨_, 0, hid fun W => (parse_ok ⟨(digs l i).toArray⟩ hm hw hv W).mono fun _ _ ⟨h1, h2⟩ => ⟨h1, h2.symm⟩, .inl ⟨rfl, by unfold pNumT; rw [if_neg (by rw [hb]; decide), if_pos hv]⟩⟩
    · exact ⟨0, 40, hid fun W => (parse_over ⟨(digs l i).toArray⟩ hm hw (Nat.le_of_not_lt hv) W).mono fun _ _ ⟨h1, h2⟩ => ⟨h1, h2.symm⟩, .inr ⟨by decide, rfl, by unfold pNumT; rw [if_neg (by rw [hb]; decide), if_neg hv]⟩⟩
  · have hb : wrtB (digs l i) = false := by
      cases h : wrtB (digs l i)
      · rfl
      · exact absurd ((wrtB_iff _ digs_all).1 h) hw
    exact ⟨0, 5, hid fun W => (parse_form ⟨(digs l i).toArray⟩ hm hw W).mono fun _ _ ⟨h1, h2⟩ => ⟨h1, h2.symm⟩, .inr ⟨by decide, rfl, by unfold pNumT; rw [if_pos hb]⟩⟩
/-- What a step of the reader leaves. -/
def PostR {α : Type} (E : Except Nat (α × Nat)) (good : α → World → Value → Prop) (bad : Value) (w : World) (g : Nat) (s : ByteArray) (e : Ending) (w' : World) : Prop :=
  (∃ j, Rd w' g s j ∧ ((∃ (a : α) (v : Value), E = .ok (a, j) ∧ e = .returned (.tuple #[v, .int .i64 0]) ∧ good a w' v) ∨ (∃ c : Nat, c ≠ 0 ∧ E = .error c ∧ e = .returned (.tuple #[bad, .int .i64 (c : Int)])))) ∧ Chg w w' (· = g)
set_option maxRecDepth 100000 in
set_option maxHeartbeats 4000000 in
theorem num_any' {w : World} {g : Nat} {s : ByteArray} {i : Nat} (h : Rd w g s i) (hi : i ≤ s.size) (hs : s.size ≤ 1048576) :
    Calls Try.prog 35 #[.pointer (some ⟨g, 0, none⟩)] w (PostR (pNumT s.data.toList i) (fun n _ v => v = .int .u64 (n : Int)) (.int .u64 0) w g s) := by
  have hsl : s.data.toList.length = s.size := rfl
  have hde := digEnd_le (l := s.data.toList) (s.data.toList.length + 1) i
  have hde2 := hde.2 hi
  obtain ⟨pv, pe, HPa, hcase⟩ := numT_cases s.data.toList i (by
    show (digs s.data.toList i).length ≤ 1048576
    rw [digs_len hi]
    omega)
  have hstr : s.extract i (digEnd s.data.toList (s.data.toList.length + 1) i) = ⟨(digs s.data.toList i).toArray⟩ := mid_str s i _ hde.1 hde2
  rw [← hstr] at HPa
  generalize pNumT s.data.toList i = P at *
  obtain ⟨E, hE⟩ : ∃ E, E = digEnd s.data.toList (s.data.toList.length + 1) i := ⟨_, rfl⟩
  rw [← hE] at HPa hcase hde hde2
  have HE := hid hE.symm
  have HC := hid hcase
  have HN := hid (fun (W : World) (j : Nat) (hj : j ≤ s.size) (h : Rd W g s j) => decimal_any h hj hs)
  obtain ⟨RR, hRR⟩ : ∃ RR : Ending → World → Prop, RR = PostR P (fun n _ v => v = .int .u64 (n : Int)) (.int .u64 0) w g s := ⟨_, rfl⟩
  rw [← hRR]
  have HRR := hid hRR
  clear hE hstr hcase hRR
  have HR := hid h
  obtain ⟨k0, k1, f1⟩ := h.two
  clear h
  have hEi := hde.1
  clear hde
  go_enter Try.func35, Try.ntmps35
  go_wp2_with fail
  go_loopg [] (s.size + 1) (fun m wr => ∃ j : Nat, i ≤ j ∧ j ≤ s.size ∧ s.size < m + j ∧ Hid (digEnd s.data.toList m j = E) ∧ Hid (Rd wr g s j) ∧ Hid (Chg w wr (· = g)))
  case atStart => exact ⟨i, Nat.le_refl _, hi, by omega, HE, HR, hid (Chg.refl _ _)⟩
  case round =>
    obtain ⟨j, hij, hj, hm, HEr, HRr, HGr⟩ := hrel
    clear HR HE k0 k1 f1
    obtain ⟨m, rfl⟩ : ∃ m, gk = m + 1 := ⟨gk - 1, by omega⟩
    have HN1 := hid (HN.out wr j hj HRr.out)
    have hj2 : j ≤ 1048576 := by omega
    cases hd : digC (nx s.data.toList j) with
    | true =>
      have HE2 := hid (show digEnd s.data.toList m (j + 1) = E by have := HEr.out; simp only [digEnd, hd, if_true] at this; exact this)
      have hj1 : j + 1 ≤ s.size := nx_lt (l := s.data.toList) (by have := (digC_iff _).1 hd; omega)
      rw [hd] at HN1
      clear HEr HN hd
      go_wp2_with fail
      refine HN1.out.mono ?_
      rintro e w1 ⟨rfl, hb1⟩
      have HR1 := hid (HRr.out.keep hb1)
      obtain ⟨k0, k1, f1⟩ := HR1.out.two
      have HG2 := hid (HGr.out.trans ((Chg.of_below hb1 (· = g)).set g 1 rfl (.int .i64 ((j : Int) + 1))))
      have HS := hid (HR1.out.set (j + 1))
      clear hb1
      go_wp2_with fail
      go_roundg m
      case measure => omega
      case rel => exact ⟨j + 1, by omega, hj1, by omega, HE2, HS, HG2⟩
    | false =>
      obtain rfl : j = E := by have := HEr.out; simp only [digEnd, hd, Bool.false_eq_true, if_false] at this; exact this
      rw [hd] at HN1
      clear HEr HN hd
      go_wp2_with fail
      refine HN1.out.mono ?_
      rintro e w1 ⟨rfl, hb1⟩
      have HR1 := hid (HRr.out.keep hb1)
      obtain ⟨k0, k1, f1⟩ := HR1.out.two
      have HG2 := hid (HGr.out.trans (Chg.of_below hb1 (· = g)))
      have hk := And.intro k0 k1
      have hw1 : (i : Int) ≤ (j : Int) := by omega
      have hw2 : (j : Int) ≤ (s.size : Int) := by omega
      have hsl2 : ∀ W : World, (Instr.slice 9 (.string s) (some (.int .i64 (i : Int))) (some (.int .i64 (j : Int))) none).run Try.prog W = .ok (.string (s.extract i j)) W := by
        intro W
        go_simp
      clear HN1 HRr HGr hb1
      go_wp2_with fail
      go_quiet ((go_at_call 41; refine Calls.quiet_of_same (HPa.out _)))
      go_wp2_with fail
      show RR (.returned (.tuple #[.int .u64 (pv : Int), .int .i64 (pe : Int)])) _
      rw [HRR.out]
      refine ⟨⟨j, HR1.out.keep (below_draws _ _), ?_⟩, HG2.out.trans (Chg.of_below (below_draws _ _) _)⟩
      rcases HC.out with ⟨h0, hP⟩ | ⟨h0, h1, hP⟩
      · exact .inl ⟨pv, _, hP, by rw [h0]; rfl, rfl⟩
      · exact .inr ⟨pe, h0, hP, by rw [h1]; rfl⟩
theorem Chg.own {w a b : World} {S : Nat → Prop} {row : Option Nat} (h : Chg w a S) (k : a.grownBy b row) (hr : ∀ j, row = some j → w.heap.size ≤ j) : Chg w b S :=
  ⟨k.os.trans h.os, k.tape.trans h.tape, k.output.trans h.output, Nat.le_trans h.size k.size, fun i hi hn => (k.block i (Nat.lt_of_lt_of_le hi h.size) (fun e => by have := hr i e.symm; omega)).trans (h.block i hi hn)⟩
/-- The two digits so far. -/
def Two (l : List UInt8) (i k : Nat) (c : Int) : Prop := (k = 0 ∧ c = 0) ∨ (k = 1 ∧ hexI (nx l i) ≠ -1 ∧ c = hexI (nx l i)) ∨ (k = 2 ∧ hexI (nx l i) ≠ -1 ∧ hexI (nx l (i + 1)) ≠ -1 ∧ c = 16 * hexI (nx l i) + hexI (nx l (i + 1)))
/-- What data holds. -/
structure DtS (w : World) (g : Nat) (s : ByteArray) (i : Nat) (v : Value) (acc : List UInt8) (W : World) : Prop where
  rd : Rd W g s i
  own : W.ownsRow w.heap.size 5 1 v acc.length (acc.map isB)
  ch : Chg w W (· = g)
theorem DtS.keep {w W W' : World} {g : Nat} {s : ByteArray} {i : Nat} {v : Value} {acc : List UInt8} (h : DtS w g s i v acc W) (hb : Below W.heap.size W W') : DtS w g s i v acc W' :=
  ⟨h.rd.keep hb, owns_chg h.own (Chg.of_below hb (fun _ => False)) (fun _ _ => id), h.ch.trans (Chg.of_below hb _)⟩
theorem DtS.step {w W : World} {g : Nat} {s : ByteArray} {i : Nat} {v : Value} {acc : List UInt8} (h : DtS w g s i v acc W) (hg : g < w.heap.size) : DtS w g s (i + 1) v acc (W.setCell ⟨g, 1, none⟩ (.int .i64 ((i : Int) + 1))) :=
  ⟨h.rd.set (i + 1), owns_chg h.own ((Chg.refl W (· = g)).set g 1 rfl _) (fun k hk e => by have := (owns_block h.own k hk).1; omega), h.ch.set g 1 rfl _⟩
set_option maxRecDepth 100000 in
set_option maxHeartbeats 4000000 in
theorem dat_any {w : World} {g : Nat} {s : ByteArray} {i0 : Nat} (h : Rd w g s i0) (hi : i0 ≤ s.size) (hs : s.size ≤ 1048576) :
    Calls Try.prog 36 #[.pointer (some ⟨g, 0, none⟩)] w (PostR (pDat s.data.toList i0) (fun ds w' v => w'.ownsRow w.heap.size 5 1 v ds.length (ds.map isB)) (.slice none 0 0) w g s) := by
  have hsl : s.data.toList.length = s.size := rfl
  have HGl := hid (Blk.lt h)
  obtain ⟨RR, hRR⟩ : ∃ RR : Ending → World → Prop, RR = PostR (pDat s.data.toList i0) (fun ds w' v => w'.ownsRow w.heap.size 5 1 v ds.length (ds.map isB)) (.slice none 0 0) w g s := ⟨_, rfl⟩
  rw [← hRR]
  have HRR := hid hRR
  have HS0 := hid (show DtS w g s i0 (.slice none 0 0) [] w from ⟨h, World.ownsRow_nil _ _ _ _, Chg.refl _ _⟩)
  have HN := hid (fun (W : World) (j : Nat) (hj : j ≤ s.size) (h : Rd W g s j) => digit_any h hj hs)
  clear hRR h
  go_enter Try.func36, Try.ntmps36
  go_wp2_with fail
  go_loopg [4] (s.size + 1) (fun m v wr => ∃ (i : Nat) (acc : List UInt8) (A : Option Addr) (c : Nat), v = .slice A acc.length c ∧ i ≤ s.size ∧ s.size < m + i ∧ acc.length ≤ i ∧ Hid (pDat s.data.toList i0 = pDatL s.data.toList m acc i) ∧ Hid (DtS w g s i (.slice A acc.length c) acc wr)) 
  case atStart => exact ⟨i0, [], none, 0, rfl, hi, by omega, by simp, hid rfl, HS0⟩
  case round =>
    clear HS0
    obtain ⟨i, acc, A, c, rfl, hi1, hm, hal, HP, HD⟩ := hrel
    obtain ⟨m, rfl⟩ : ∃ m, gk = m + 1 := ⟨gk - 1, by omega⟩
    have hi2 : i ≤ 1048576 := by omega
    have hal2 : acc.length ≤ 1048576 := by omega
    have HN1 := hid (fun W (hb : Below wr.heap.size wr W) => HN.out W i hi1 (HD.out.keep hb).rd)
    have hx0 := hexI_rng s.data.toList i
    obtain ⟨al, hal3⟩ : ∃ al, al = acc.length := ⟨_, rfl⟩
    have HAl := hid hal3
    rw [← hal3] at hal2 ⊢
    have hD : DtS w g s i (.slice A al c) acc wr := by rw [hal3]; exact HD.out
    have HD2 := hid hD
    clear hal3 hD
    go_upto_region 2 with (fail)
    go_cut [14] from 7 to 13 (fun s14 wx => ∃ b : Bool, s14 = .bool b ∧ Hid (b = true ↔ (acc.isEmpty = true ∨ hexI (nx s.data.toList i) ≠ -1)) ∧ Hid (DtS w g s i (.slice A al c) acc wx))
    case first =>
      by_cases h0 : al = 0
      · subst h0
        go_wp2_with fail
        go_meet
        exact ⟨true, rfl, hid ⟨fun _ => .inl (by rw [List.isEmpty_iff, List.eq_nil_iff_length_eq_zero]; exact HAl.out.symm), fun _ => rfl⟩, HD2⟩
      · have h0' : ¬ (al : Int) = 0 := by omega
        have h0b : ((al : Int) == 0) = false := by simpa using h0'
        have HEm := hid (show acc.isEmpty = false by cases acc with | nil => exact absurd HAl.out h0 | cons _ _ => rfl)
        generalize hexI (nx s.data.toList i) = x at *
        by_cases hx : x = -1
        · subst hx
          go_wp2_with (go_at_call 42; (with_reducible refine (HN1.out _ (Below.refl _ _)).mono ?_); rintro e w1 ⟨rfl, hb⟩; have HB := hid hb; clear hb)
          go_meet
          exact ⟨false, rfl, hid (by rw [HEm.out]; simp), hid (HD2.out.keep HB.out)⟩
        · have hxb : (x != -1) = true := by simpa using hx
          go_wp2_with (go_at_call 42; (with_reducible refine (HN1.out _ (Below.refl _ _)).mono ?_); rintro e w1 ⟨rfl, hb⟩; have HB := hid hb; clear hb)
          go_meet
          exact ⟨true, rfl, hid (by simp [hx]), hid (HD2.out.keep HB.out)⟩
    case rest =>
      obtain ⟨b, rfl, HBc, HD3⟩ := hcut
      clear HD HD2 HN1
      cases b
      · have HPe := hid (show pDat s.data.toList i0 = .ok (acc, i) by
          rw [HP.out]
          unfold pDatL
          rw [if_neg (fun hc => by have := HBc.out.2 hc; cases this)])
        go_wp2_with fail
        show RR (.returned (.tuple #[.slice A al c, .int .i64 0])) wc
        rw [HRR.out]
        exact ⟨⟨i, HD3.out.rd, .inl ⟨acc, _, HPe.out, rfl, HD3.out.own⟩⟩, HD3.out.ch⟩
      · have HPe := hid (show pDat s.data.toList i0 = (if hexI (nx s.data.toList i) = -1 then .error 5 else if hexI (nx s.data.toList (i + 1)) = -1 then .error 5
            else pDatL s.data.toList m (acc ++ [((16 * hexI (nx s.data.toList i) + hexI (nx s.data.toList (i + 1))).toNat).toUInt8]) (i + 2)) by
          rw [HP.out]
          conv => lhs; unfold pDatL
          rw [if_pos (HBc.out.1 rfl)])
        go_wp2_with fail
        go_loopw [5, 15] (fun cv kv wr => ∃ (k : Nat) (cc : Int), k ≤ 2 ∧ cv = .int .i64 cc ∧ kv = .int .i64 k ∧ Hid (Two s.data.toList i k cc) ∧ Hid (i + k ≤ s.size) ∧ Hid (DtS w g s (i + k) (.slice A al c) acc wr)) (fun _ k _ => 2 - (intOf k).toNat)
        case atStart => exact ⟨0, 0, by omega, rfl, rfl, hid (.inl ⟨rfl, rfl⟩), hid hi1, HD3⟩
        case round =>
          clear HD3
          obtain ⟨k, cc, hk, rfl, rfl, HTw, HIk, HDk⟩ := hrel
          have hik := HIk.out
          have HNk := hid (HN.out wr (i + k) HIk.out HDk.out.rd)
          have hrk := hexI_rng s.data.toList (i + k)
          have HLt := hid (fun h => hexI_lt (l := s.data.toList) (i := i + k) h)
          by_cases hlt : k < 2
          · have hlt' : (k : Int) < 2 := by omega
            have hcc : 0 ≤ cc ∧ cc ≤ 15 := by
              rcases HTw.out with ⟨_, h2⟩ | ⟨_, h2, h3⟩ | ⟨h1, _⟩
              · omega
              · have := hexI_rng s.data.toList i; omega
              · omega
            obtain ⟨hc0, hc1⟩ := hcc
            obtain ⟨x, hx⟩ : ∃ x, x = hexI (nx s.data.toList (i + k)) := ⟨_, rfl⟩
            rw [← hx] at HNk hrk HLt
            have HXx := hid hx
            clear hx
            by_cases hx1 : x = -1
            · subst hx1
              go_wp2_with (go_at_call 42; (with_reducible refine HNk.out.mono ?_); rintro e w1 ⟨rfl, hb⟩; have HB := hid hb; clear hb)
              show RR (.returned (.tuple #[.slice none 0 0, .int .i64 5])) _
              rw [HRR.out]
              have hd := HDk.out.keep HB.out
              refine ⟨⟨i + k, hd.rd, .inr ⟨5, by decide, ?_, rfl⟩⟩, hd.ch⟩
              rw [HPe.out]
              rcases HTw.out with ⟨h1, _⟩ | ⟨h1, h2, _⟩ | ⟨h1, _⟩
              · subst h1
                rw [if_pos (show hexI (nx s.data.toList i) = -1 from HXx.out.symm)]
              · subst h1
                rw [if_neg h2, if_pos HXx.out.symm]
              · omega
            · have hx1b : (x == -1) = false := by simpa using hx1
              have HTn := hid (show Two s.data.toList i (k + 1) (16 * cc + x) by
                rcases HTw.out with ⟨h1, h2⟩ | ⟨h1, h2, h3⟩ | ⟨h1, _⟩
                · subst h1 h2
                  exact .inr (.inl ⟨rfl, by rw [← show x = hexI (nx s.data.toList i) from HXx.out]; exact hx1, by rw [← show x = hexI (nx s.data.toList i) from HXx.out]; omega⟩)
                · subst h1
                  exact .inr (.inr ⟨rfl, h2, by rw [← HXx.out]; exact hx1, by rw [h3, ← HXx.out]⟩)
                · omega)
              have hlt2 := HLt.out hx1
              have HIn := hid (show i + (k + 1) ≤ s.size from hlt2)
              have hx16 : x < 16 := hrk.2
              have hx0 : 0 ≤ x := by omega
              clear hrk hlt2
              go_wp2_with (go_at_call 42; (with_reducible refine HNk.out.mono ?_); rintro e w1 ⟨rfl, hb⟩; have HDm := hid (HDk.out.keep hb); obtain ⟨k0, k1, f1⟩ := HDm.out.rd.two; have HDn := hid (show DtS w g s (i + (k + 1)) (.slice A al c) acc (w1.setCell ⟨g, 1, none⟩ (.int .i64 ((i : Int) + (k : Int) + 1))) by have h := HDm.out.step HGl.out; rw [Int.natCast_add] at h; exact h); clear hb)
              exact ⟨⟨k + 1, 16 * cc + x, by omega, by first | rfl | go_num, by go_num, HTn, HIn, HDn⟩, by simp [intOf]; omega⟩
          · obtain rfl : k = 2 := by omega
            obtain ⟨hh0, hh1, hcc⟩ : hexI (nx s.data.toList i) ≠ -1 ∧ hexI (nx s.data.toList (i + 1)) ≠ -1 ∧ cc = 16 * hexI (nx s.data.toList i) + hexI (nx s.data.toList (i + 1)) := by
              rcases HTw.out with ⟨h1, _⟩ | ⟨h1, _⟩ | ⟨_, h2⟩
              · omega
              · omega
              · exact h2
            have hr0 := hexI_rng s.data.toList i
            have hr1 := hexI_rng s.data.toList (i + 1)
            have hcn : 0 ≤ cc ∧ cc < 256 := by omega
            have HPn := hid (show pDat s.data.toList i0 = pDatL s.data.toList m (acc ++ [cc.toNat.toUInt8]) (i + 2) by rw [HPe.out, if_neg hh0, if_neg hh1, hcc])
            obtain ⟨n, rfl⟩ : ∃ n : Nat, cc = (n : Int) := ⟨cc.toNat, by omega⟩
            have hn : n < 256 := by omega
            rw [Int.toNat_natCast] at HPn
            have hwr : IntKind.u8.wrap (n : Int) = (n : Int) := by rw [IntKind.wrap_u8]; omega
            clear hcc hr0 hr1 hcn hh0 hh1 HNk hrk HLt
            have hX := RdB.one wr n hn
            have hb1 := (Below.refl wr.heap.size wr).alloc (Nat.le_refl _) (.cells #[.int .u8 (n : Int)] bT)
            have HDa := hid (HDk.out.keep hb1)
            have hown := HDa.out.own
            rw [← HAl.out] at hown
            have HOwn := hid hown
            have HXr := hid hX
            clear hX hb1 hown
            go_wp2_with (at_builtin; refine wpList_appB rfl _ _ rfl w.heap.size (.slice A al c) al (acc.map isB) rfl HOwn.out (some ⟨wr.heap.size, 0, none⟩) 1 1 [n.toUInt8] rfl HXr.out (by omega) (by have := HDa.out.ch.size; exact this) ?_; intro A2 c2 w2 hown2 hg2 _; have HO2 := hid hown2.out; have HG2 := hid hg2; clear hown2 hg2)
            have hob := fun k hk => (owns_block HOwn.out k hk).1
            have hlen : (acc ++ [n.toUInt8]).length = al + 1 := by rw [List.length_append, ← HAl.out]; rfl
            have HDf := hid (show DtS w g s (i + 2) (.slice A2 (al + 1) c2) (acc ++ [n.toUInt8]) w2 from
              ⟨Blk.grown HDa.out.rd HG2.out (fun e => by have := hob g e.symm; have := HGl.out; omega), by rw [hlen, List.map_append]; exact HO2.out, Chg.own HDa.out.ch HG2.out hob⟩)
            go_roundg m
            case measure => omega
            case rel => exact ⟨i + 2, acc ++ [n.toUInt8], A2, c2, by rw [hlen], by omega, by omega, by rw [hlen]; have := HAl.out; omega, HPn, by rw [hlen]; exact HDf⟩
end Go.Proofs.Ytdhipmdapodpkaa
