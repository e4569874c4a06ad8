/- lex: a token, and the gap ahead of it. -/
import Derived.Test.YtfcccfplmdjndaaGreatLxC
import Derived.WalkMore
namespace Go.Proofs.YtfcccfplmdjndaaGreat
open Go.RowKit

theorem pre47 (r : List UInt8) : Lib.hasPrefix r [47] = decide (r.head? = some 47) := by
 cases r with
 | nil => rfl
 | cons c t =>
  show ((47 == c) && true) = decide (some c = some 47)
  rw [Bool.and_true, Bool.eq_iff_iff, decide_eq_true_eq, beq_iff_eq, Option.some.injEq]
  exact ⟨Eq.symm, Eq.symm⟩
theorem pre46 (c : UInt8) (t : List UInt8) : Lib.hasPrefix (c :: t) [46, 46] = decide (c.toNat = 46 ∧ t.head? = some 46) := by
 have h1 : c.toNat = 46 ↔ c = 46 := ⟨fun h => UInt8.toNat_inj.1 h, fun h => by rw [h]; rfl⟩
 rw [Bool.eq_iff_iff, decide_eq_true_eq, h1]
 cases t with
 | nil => simp [Lib.hasPrefix, List.isPrefixOf]
 | cons d t =>
  show ((46 == c) && ((46 == d) && true)) = true ↔ c = 46 ∧ some d = some 46
  rw [Bool.and_true, Bool.and_eq_true, beq_iff_eq, beq_iff_eq, Option.some.injEq]
  exact ⟨fun h => ⟨h.1.symm, h.2.symm⟩, fun h => ⟨h.1.symm, h.2.symm⟩⟩
theorem sg_contains : ∀ c : Fin 256, decide (0 ≤ Lib.indexByte sgL (UInt8.ofNat c.1)) = sgB (UInt8.ofNat c.1) := by decide +kernel
theorem sg_any (c : UInt8) : decide (0 ≤ Lib.indexByte sgL c) = sgB c := by
 have h := sg_contains ⟨c.toNat, c.toNat_lt⟩
 simpa using h
set_option maxRecDepth 100000 in
set_option maxHeartbeats 1000000 in
theorem pattern_any {w : World} {g : Nat} {s : ByteArray} {i : Nat} (h : Cu w g s i) (hi : i < s.size) (hs : s.size ≤ 65536) (t : List UInt8) (hr : s.data.toList.drop (i + 1) = t) :
  Calls Tryz.prog 49 #[.pointer (some ⟨g, 0, none⟩)] w (TkPost (if (t.drop (span patB t)).head? = some 47 then .ok (3, t.take (span patB t), span patB t + 2) else .error 5) w g s i) := by
 have HP := hid (fun (W : World) (h : Cu W g s (i + 1)) => past_any h (by omega) hs 83 patB pattern1_tells (enters_of Tryz.func83 (by kernel_rfl) rfl))
 have hlen : t.length = s.size - (i + 1) := by rw [← hr, List.length_drop]; rfl
 have hle := span_le patB t
 have HRest := hid (fun (W : World) (h : Cu W g s (i + 1 + span patB t)) => rest_any h (by omega) hs)
 have hd : s.data.toList.drop (i + 1 + span patB t) = t.drop (span patB t) := by rw [← List.drop_drop, hr]
 rw [hd] at HRest
 rw [hr] at HP
 have HH := hid (fun W => Tryz.strings_HasPrefix ⟨(t.drop (span patB t)).toArray⟩ ⟨#[47]⟩ W)
 rw [show Lib.hasPrefix ((⟨(t.drop (span patB t)).toArray⟩ : ByteArray)).data.toList ((⟨#[47]⟩ : ByteArray)).data.toList = decide ((t.drop (span patB t)).head? = some 47) from pre47 _] at HH
 have hnn : i + 1 + span patB t ≤ 65536 := by omega
 generalize hX : (⟨(t.take (span patB t)).toArray⟩ : ByteArray) = X at *
 generalize (⟨(t.drop (span patB t)).toArray⟩ : ByteArray) = Y at *
 have HX := hid hX
 obtain ⟨h0, h1, f1⟩ := h.cells
 have HC1 := hid (h.put (i + 1))
 have HG1 := hid (grown_set1 w g 1 (.int .i64 ((i + 1 : Nat) : Int)))
 have e1 : ((i + 1 : Nat) : Int) = (i : Int) + 1 := by omega
 have hw1 : wrap64 ((i : Int) + 1) = (i : Int) + 1 := by unfold wrap64; omega
 rw [e1] at HC1 HG1
 clear hX h hd hr e1
 by_cases h47 : (t.drop (span patB t)).head? = some 47
 ·rw [if_pos h47]
  rw [decide_eq_true h47] at HH
  have hn : span patB t + 1 ≤ t.length := by
   rcases Nat.lt_or_ge (span patB t) t.length with h2 | h2
   ·exact h2
   ·rw [List.drop_eq_nil_of_le h2] at h47; cases h47
  clear h47
  generalize span patB t = n at *
  have hw2 : wrap64 (((i + 1 + n : Nat) : Int) + 1) = ((i + 1 + n : Nat) : Int) + 1 := by unfold wrap64; omega
  go_enter Tryz.func49, Tryz.ntmps49
  go_wp2_with fail
  refine (HP.out _ HC1.out).mono ?_
  rintro e w1 ⟨rfl, hc, hg⟩
  have HC2 := hid hc
  have HG2 := hid (grown_trans HG1.out hg)
  clear hc hg HC1 HG1 h0 h1 f1
  go_wp2_with fail
  refine (HRest.out _ HC2.out).mono ?_
  rintro e w2 ⟨rfl, q, rfl⟩
  go_wp2_with fail
  refine (HH.out _).mono ?_
  rintro e w3 ⟨rfl, rfl⟩
  have hc3 : Cu (w1.drewN q) g s (i + 1 + n) := HC2.out
  obtain ⟨h0, h1, f1⟩ := hc3.cells
  have HC3 := hid (hc3.put (i + 1 + n + 1))
  have HG3 := hid (grown_trans (grown_trans HG2.out (grown_drewN w1 q _)) (grown_set1 (w1.drewN q) g 1 (.int .i64 ((i + 1 + n + 1 : Nat) : Int))))
  have e2 : ((i + 1 + n + 1 : Nat) : Int) = ((i + 1 + n : Nat) : Int) + 1 := by omega
  rw [e2] at HC3 HG3
  clear hc3 e2
  go_wp2
  go_ret3
  exact ⟨HG3.out, by rw [HX.out]; rfl, by rw [show i + (n + 2) = i + 1 + n + 1 by omega]; exact HC3.out⟩
 ·rw [if_neg h47]
  rw [decide_eq_false h47] at HH
  clear h47
  generalize span patB t = n at *
  go_enter Tryz.func49, Tryz.ntmps49
  go_wp2_with fail
  refine (HP.out _ HC1.out).mono ?_
  rintro e w1 ⟨rfl, hc, hg⟩
  have HC2 := hid hc
  have HG2 := hid (grown_trans HG1.out hg)
  clear hc hg HC1 HG1 h0 h1 f1
  go_wp2_with fail
  refine (HRest.out _ HC2.out).mono ?_
  rintro e w2 ⟨rfl, q, rfl⟩
  go_wp2_with fail
  refine (HH.out _).mono ?_
  rintro e w3 ⟨rfl, rfl⟩
  go_wp2
  go_ret3
  exact ⟨grown_trans HG2.out (grown_drewN w1 q _), rfl⟩
set_option maxRecDepth 100000 in
set_option maxHeartbeats 1000000 in
theorem sign_any {w : World} {g : Nat} {s : ByteArray} {i : Nat} (h : Cu w g s i) (hi : i < s.size) (hs : s.size ≤ 65536) (c : UInt8) (t : List UInt8) (hr : s.data.toList.drop i = c :: t) :
  Calls Tryz.prog 50 #[.pointer (some ⟨g, 0, none⟩)] w (TkPost (if c.toNat = 46 ∧ t.head? = some 46 then .ok (4, [46, 46], 2) else if sgB c = true then .ok (4, [c], 1) else .error 100) w g s i) := by
 have HRest := hid (fun (W : World) (h : Cu W g s i) => rest_any h (by omega) hs)
 rw [hr] at HRest
 have HH := hid (fun W => Tryz.strings_HasPrefix ⟨(c :: t).toArray⟩ ⟨#[46, 46]⟩ W)
 rw [show Lib.hasPrefix ((⟨(c :: t).toArray⟩ : ByteArray)).data.toList ((⟨#[46, 46]⟩ : ByteArray)).data.toList = decide (c.toNat = 46 ∧ t.head? = some 46) from pre46 c t] at HH
 have HN := hid (fun W => Tryz.strings_Contains_one ⟨#[61, 59, 123, 125, 91, 93, 40, 41, 58, 124, 42, 43, 37]⟩ c W)
 rw [show decide (0 ≤ Lib.indexByte ((⟨#[61, 59, 123, 125, 91, 93, 40, 41, 58, 124, 42, 43, 37]⟩ : ByteArray)).data.toList c) = sgB c from sg_any c] at HN
 have hlen : (c :: t).length = s.size - i := by rw [← hr, List.length_drop]; rfl
 have hYs : (⟨(c :: t).toArray⟩ : ByteArray).size = s.size - i := hlen
 have hsl : ∀ W : World, (Instr.slice 9 (.string ⟨(c :: t).toArray⟩) none (some (.int .i64 1)) none).run Tryz.prog W = .ok (.string ⟨#[c]⟩) W := by
  intro W
  have h1 : (1 : Int) ≤ ((⟨(c :: t).toArray⟩ : ByteArray).size : Int) := by rw [hYs]; omega
  have h2 : (⟨(c :: t).toArray⟩ : ByteArray).extract 0 1 = ⟨#[c]⟩ := by
   rw [mid_str _ 0 1 (by omega) (by omega)]
   rfl
  rw [← h2]
  clear hYs
  generalize (⟨(c :: t).toArray⟩ : ByteArray) = Y at *
  go_simp
 have h46 : t.head? = some 46 → 1 < s.size - i := by
  intro h
  rw [← hlen]
  cases t with
  | nil => cases h
  | cons d t => simp
 obtain ⟨h0, h1, f1⟩ := h.cells
 have HC0 := hid h
 clear hr h hYs
 generalize (⟨(c :: t).toArray⟩ : ByteArray) = Y at *
 by_cases h2 : c.toNat = 46 ∧ t.head? = some 46
 ·rw [if_pos h2]
  rw [decide_eq_true h2] at HH
  have hi2 := h46 h2.2
  have hw1 : wrap64 ((i : Int) + 2) = (i : Int) + 2 := by unfold wrap64; omega
  clear h46 h2 HN h0 h1 f1 hlen
  go_enter Tryz.func50, Tryz.ntmps50
  go_wp2_with fail
  refine (HRest.out _ HC0.out).mono ?_
  rintro e w1 ⟨rfl, q1, rfl⟩
  have HC1 := hid (HC0.out.drewN q1)
  go_wp2_with fail
  refine (HRest.out _ HC1.out).mono ?_
  rintro e w2 ⟨rfl, q2, rfl⟩
  go_wp2_with fail
  refine (HH.out _).mono ?_
  rintro e w3 ⟨rfl, rfl⟩
  have hc3 : Cu (w.drewN (q1 + q2)) g s i := HC0.out
  obtain ⟨h0, h1, f1⟩ := hc3.cells
  have HC3 := hid (hc3.put (i + 2))
  have HG3 := hid (grown_trans (grown_drewN w (q1 + q2) _) (grown_set1 (w.drewN (q1 + q2)) g 1 (.int .i64 ((i + 2 : Nat) : Int))))
  have e2 : ((i + 2 : Nat) : Int) = (i : Int) + 2 := by omega
  rw [e2] at HC3 HG3
  clear hc3 e2
  generalize w.drewN (q1 + q2) = w4 at *
  go_wp2
  go_ret3
  exact ⟨HG3.out, rfl, HC3.out⟩
 ·rw [if_neg h2]
  rw [decide_eq_false h2] at HH
  clear h46 h2 h0 h1 f1 hlen
  cases hsg : sgB c with
  | true =>
   rw [if_pos rfl]
   rw [hsg] at HN
   have hw1 : wrap64 ((i : Int) + 1) = (i : Int) + 1 := by unfold wrap64; omega
   clear hsg
   go_enter Tryz.func50, Tryz.ntmps50
   go_wp2_with fail
   refine (HRest.out _ HC0.out).mono ?_
   rintro e w1 ⟨rfl, q1, rfl⟩
   have HC1 := hid (HC0.out.drewN q1)
   go_wp2_with fail
   refine (HRest.out _ HC1.out).mono ?_
   rintro e w2 ⟨rfl, q2, rfl⟩
   go_wp2_with fail
   refine (HH.out _).mono ?_
   rintro e w3 ⟨rfl, rfl⟩
   go_wp2_with fail
   refine (HN.out _).mono ?_
   rintro e w3 ⟨rfl, rfl⟩
   have hc3 : Cu (w.drewN (q1 + q2)) g s i := HC0.out
   obtain ⟨h0, h1, f1⟩ := hc3.cells
   have HC3 := hid (hc3.put (i + 1))
   have HG3 := hid (grown_trans (grown_drewN w (q1 + q2) _) (grown_set1 (w.drewN (q1 + q2)) g 1 (.int .i64 ((i + 1 : Nat) : Int))))
   have e2 : ((i + 1 : Nat) : Int) = (i : Int) + 1 := by omega
   rw [e2] at HC3 HG3
   clear hc3 e2
   generalize w.drewN (q1 + q2) = w4 at *
   go_wp2
   go_ret3
   exact ⟨HG3.out, rfl, HC3.out⟩
  | false =>
   rw [if_neg (by decide)]
   rw [hsg] at HN
   clear hsg
   go_enter Tryz.func50, Tryz.ntmps50
   go_wp2_with fail
   refine (HRest.out _ HC0.out).mono ?_
   rintro e w1 ⟨rfl, q1, rfl⟩
   have HC1 := hid (HC0.out.drewN q1)
   go_wp2_with fail
   refine (HRest.out _ HC1.out).mono ?_
   rintro e w2 ⟨rfl, q2, rfl⟩
   go_wp2_with fail
   refine (HH.out _).mono ?_
   rintro e w3 ⟨rfl, rfl⟩
   go_wp2_with fail
   refine (HN.out _).mono ?_
   rintro e w3 ⟨rfl, rfl⟩
   go_wp2
   go_ret3
   exact ⟨grown_drewN w (q1 + q2) _, rfl⟩
end Go.Proofs.YtfcccfplmdjndaaGreat

/- lex: the gap, and one token whatever it is. -/
namespace Go.Proofs.YtfcccfplmdjndaaGreat
open Go.RowKit

theorem gap_at {l : List UInt8} {i : Nat} (h : i < l.length) : gap false (l.drop i) = if (l[i]).toNat = 10 ∨ (l[i]).toNat = 32 ∨ (l[i]).toNat = 9 ∨ (l[i]).toNat = 13 then gap false (l.drop (i + 1)) + 1 else if (l[i]).toNat = 35 then span nlB (l.drop i) + gap false ((l.drop i).drop (span nlB (l.drop i))) else 0 := by
 rw [drop_eq h, gap_cons]
 by_cases h10 : (l[i]).toNat = 10
 ·rw [if_pos h10, if_pos (.inl h10)]
 ·rw [if_neg h10]
  by_cases hb : (l[i]).toNat = 32 ∨ (l[i]).toNat = 9 ∨ (l[i]).toNat = 13
  ·rw [if_pos (.inr hb), if_pos (.inr hb)]
  ·rw [if_neg (show ¬ (false = true ∨ (l[i]).toNat = 32 ∨ (l[i]).toNat = 9 ∨ (l[i]).toNat = 13) by simpa using hb), if_neg (show ¬ ((l[i]).toNat = 10 ∨ (l[i]).toNat = 32 ∨ (l[i]).toNat = 9 ∨ (l[i]).toNat = 13) from fun h => h.elim h10 hb)]
   by_cases h35 : (l[i]).toNat = 35
   ·rw [if_pos h35, if_pos h35, gap_note, span_cons, if_pos (by unfold nlB; simp [h10]), List.drop_succ_cons]
    omega
   ·rw [if_neg h35, if_neg h35]
theorem gap_end {l : List UInt8} {i : Nat} (h : l.length ≤ i) : gap false (l.drop i) = 0 := by
 rw [List.drop_eq_nil_of_le h]; rfl
set_option maxRecDepth 100000 in
set_option maxHeartbeats 4000000 in
theorem skip_any {w : World} {g : Nat} {s : ByteArray} {i : Nat} (h : Cu w g s i) (hi : i ≤ s.size) (hs : s.size ≤ 65536) :
  Calls Tryz.prog 20 #[.pointer (some ⟨g, 0, none⟩)] w fun e w' => e = .returned (.tuple #[]) ∧ Cu w' g s (i + gap false (s.data.toList.drop i)) ∧ w.grownBy w' (some g) := by
 have HP := hid (fun (W : World) (j : Nat) (h : Cu W g s j) (hj : j ≤ s.size) => past_any h hj hs 42 nlB skip1_tells (enters_of Tryz.func42 (by kernel_rfl) rfl))
 obtain ⟨E, hE⟩ : ∃ E, E = i + gap false (s.data.toList.drop i) := ⟨_, rfl⟩
 rw [← hE]
 have HE := hid hE
 have HC := hid h
 have HG := hid (grown_refl w (some g))
 clear h hE
 go_enter Tryz.func20, Tryz.ntmps20
 go_wp2_with fail
 go_step3
 go_wp2_with fail
 go_step3
 go_wp2_with fail
 go_loopg [] (s.size + 1) (fun m wr => ∃ j : Nat, j ≤ s.size ∧ s.size < m + j ∧ Hid (E = j + gap false (s.data.toList.drop j)) ∧ Hid (Cu wr g s j) ∧ Hid (w.grownBy wr (some g)))
 case atStart => exact ⟨i, hi, by omega, HE, HC, HG⟩
 case round =>
  clear HE HC HG
  obtain ⟨j, hj, hm, HE, HC, HG⟩ := hrel
  obtain ⟨m, rfl⟩ : ∃ m, gk = m + 1 := ⟨gk - 1, by omega⟩
  obtain ⟨h0, h1, f1⟩ := HC.out.cells
  rcases Nat.lt_or_ge j s.size with hlt | hge
  ·have hlt2 : j < s.data.toList.length := hlt
   have n1 : (j : Int) < (s.size : Int) := by omega
   have hga := gap_at hlt2
   obtain ⟨x, hx⟩ : ∃ x, x = (s.data.toList[j]'hlt2).toNat := ⟨_, rfl⟩
   have hx1 : ((s[j]'hlt).toNat : Int) = (x : Int) := by rw [hx]; rfl
   rw [← hx] at hga
   have hxx := hx.symm
   clear hx
   by_cases hb : x = 10 ∨ x = 32 ∨ x = 9 ∨ x = 13
   ·rw [if_pos hb] at hga
    have HE2 := hid (show E = (j + 1) + gap false (s.data.toList.drop (j + 1)) by rw [HE.out, hga]; omega)
    clear hga HE hlt2 hxx
    have hw : wrap64 ((j : Int) + 1) = (j : Int) + 1 := by unfold wrap64; omega
    have e1 : ((j + 1 : Nat) : Int) = (j : Int) + 1 := by omega
    go_wp2_with fail
    go_quiet (fail)
    have HCd := hid (HC.out.drewN nq)
    have HGd := hid (grown_trans HG.out (grown_drewN wr nq _))
    clear HC HG h0 h1 f1
    generalize wr.drewN nq = wd at *
    obtain ⟨h0, h1, f1⟩ := HCd.out.cells
    go_wp2_with fail
    go_quiet (fail)
    have HC := hid (HCd.out.drewN nq)
    have HG := hid (grown_trans HGd.out (grown_drewN wd nq _))
    clear HCd HGd h0 h1 f1
    generalize wd.drewN nq = we at *
    obtain ⟨h0, h1, f1⟩ := HC.out.cells
    have HC2 := hid (HC.out.put (j + 1))
    have HG2 := hid (grown_trans HG.out (grown_set1 we g 1 (.int .i64 ((j + 1 : Nat) : Int))))
    rw [e1] at HC2 HG2
    clear HC HG hx1
    rcases hb with rfl | rfl | rfl | rfl
    all_goals
     go_wp2_with fail
     go_roundg m
     case measure => omega
     case rel => exact ⟨j + 1, by omega, by omega, HE2, HC2.out, HG2.out⟩
   ·rw [if_neg hb] at hga
    have hb1 : ¬ (x : Int) = 9 := by omega
    have hb2 : ¬ (x : Int) = 10 := by omega
    have hb3 : ¬ (x : Int) = 13 := by omega
    have hb4 : ¬ (x : Int) = 32 := by omega
    by_cases h35 : x = 35
    ·rw [if_pos h35] at hga
     have hsp := span_at (p := nlB) hlt2
     have hsl := span_le nlB (s.data.toList.drop j)
     have hsj : 0 < span nlB (s.data.toList.drop j) := by
      rw [hsp, if_pos (by unfold nlB; rw [hxx, h35]; rfl)]; omega
     rw [List.length_drop, show s.data.toList.length = s.size from rfl] at hsl
     have HE2 := hid (show E = (j + span nlB (s.data.toList.drop j)) + gap false (s.data.toList.drop (j + span nlB (s.data.toList.drop j))) by rw [HE.out, hga, List.drop_drop]; omega)
     have HPj := hid (fun W (h : Cu W g s j) => HP.out W j h hj)
     clear hga hsp HE hlt2 hxx
     generalize span nlB (s.data.toList.drop j) = n at *
     go_wp2_with fail
     go_quiet (fail)
     have HCd := hid (HC.out.drewN nq)
     have HGd := hid (grown_trans HG.out (grown_drewN wr nq _))
     clear HC HG h0 h1 f1
     generalize wr.drewN nq = wd at *
     obtain ⟨h0, h1, f1⟩ := HCd.out.cells
     go_wp2_with fail
     go_quiet (fail)
     have HC := hid (HCd.out.drewN nq)
     have HG := hid (grown_trans HGd.out (grown_drewN wd nq _))
     clear HCd HGd h0 h1 f1
     generalize wd.drewN nq = we at *
     obtain ⟨h0, h1, f1⟩ := HC.out.cells
     obtain rfl := h35
     clear hx1
     go_wp2_with fail
     refine (HPj.out _ HC.out).mono ?_
     rintro e w5 ⟨rfl, hc5, hg5⟩
     have HC2 := hid hc5
     have HG2 := hid (grown_trans HG.out hg5)
     clear hc5 hg5 HC HG h0 h1 f1
     go_wp2_with fail
     go_roundg m
     case measure => omega
     case rel => exact ⟨j + n, by omega, by omega, HE2, HC2, HG2⟩
    ·rw [if_neg h35] at hga
     have h35' : ¬ (x : Int) = 35 := by omega
     have HE2 := hid (show E = j by rw [HE.out, hga]; omega)
     clear hga HE hlt2 hxx
     go_wp2_with fail
     go_quiet (fail)
     have HCd := hid (HC.out.drewN nq)
     have HGd := hid (grown_trans HG.out (grown_drewN wr nq _))
     clear HC HG h0 h1 f1
     generalize wr.drewN nq = wd at *
     obtain ⟨h0, h1, f1⟩ := HCd.out.cells
     go_wp2_with fail
     go_quiet (fail)
     have HC := hid (HCd.out.drewN nq)
     have HG := hid (grown_trans HGd.out (grown_drewN wd nq _))
     clear HCd HGd h0 h1 f1
     generalize wd.drewN nq = we at *
     obtain ⟨h0, h1, f1⟩ := HC.out.cells
     clear hx1
     obtain rfl := HE2.out
     go_wp2_with fail
     go_end0
     exact ⟨rfl, HC.out, HG.out⟩
  ·obtain rfl : j = s.size := by omega
   have HE2 := hid (show E = s.size by rw [HE.out, gap_end (show s.data.toList.length ≤ s.size from Nat.le_refl _)]; omega)
   clear HE
   go_wp2_with fail
   go_quiet (fail)
   obtain rfl := HE2.out
   have HCd := hid (HC.out.drewN nq)
   have HGd := hid (grown_trans HG.out (grown_drewN wr nq _))
   clear HC HG h0 h1 f1
   generalize wr.drewN nq = wd at *
   go_wp2_with fail
   go_end0
   exact ⟨rfl, HCd.out, HGd.out⟩
end Go.Proofs.YtfcccfplmdjndaaGreat
