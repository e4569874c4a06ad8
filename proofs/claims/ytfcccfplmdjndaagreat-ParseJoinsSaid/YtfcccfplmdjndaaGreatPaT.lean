/- parse: numbers in digits; Fixed. -/
import Derived.Test.YtfcccfplmdjndaaGreatPaFw
import Derived.Test.YtfcccfplmdjndaaGreatPar
import Derived.Test.YtfcccfplmdjndaaGreatWd2
import Derived.Test.YtfcccfplmdjndaaGreatShelf
namespace Go.Proofs.YtfcccfplmdjndaaGreat
set_option linter.unusedSimpArgs false
set_option linter.unusedVariables false
open Go.RowKit

theorem wrtB_iff (l : List UInt8) : wrtB l = true ↔ Wrt l := by
 unfold wrtB Wrt isDig
 simp only [Bool.and_eq_true, Bool.or_eq_true, Bool.not_eq_true', decide_eq_true_eq, decide_eq_false_iff_not, List.all_eq_true, List.isEmpty_eq_false_iff]
 constructor
 ·rintro ⟨⟨h1, h2⟩, h3⟩
  exact ⟨h1, h2, h3⟩
 ·rintro ⟨h1, h2, h3⟩
  exact ⟨⟨h1, h2⟩, h3⟩
theorem wparse_any (x : List UInt8) (hx : x.length ≤ 1000000) (w : World) : Calls Tryz.prog 39 #[.string ⟨x.toArray⟩] w fun e w' => e = .returned (.tuple #[.int .u64 ((parN x).1 : Int), .int .i64 ((parN x).2 : Int)]) ∧ w = w' := by
 have hs : (⟨x.toArray⟩ : ByteArray).size ≤ maxLen := by show x.toArray.size ≤ _; simp; unfold maxLen; omega
 have hd : (⟨x.toArray⟩ : ByteArray).data.toList = x := rfl
 by_cases h : Wrt x
 ·by_cases hv : valL x < 18446744073709551616
  ·have hp : parN x = (valL x, 0) := by
    unfold parN
    rw [if_neg (by rw [(wrtB_iff x).2 h]; decide), if_neg (by omega)]
   rw [hp]
   exact parse_ok _ hs h hv w
  ·have hp : parN x = (0, 40) := by
    unfold parN
    rw [if_neg (by rw [(wrtB_iff x).2 h]; decide), if_pos (by omega)]
   rw [hp]
   exact parse_over _ hs h (by show 18446744073709551616 ≤ valL x; omega) w
 ·have hp : parN x = (0, 5) := by
   unfold parN
   rw [if_pos (by cases hb : wrtB x with | false => rfl | true => exact absurd ((wrtB_iff x).1 hb) h)]
  rw [hp]
  exact parse_form _ hs h w
theorem parN_lt (x : List UInt8) : (parN x).1 < 18446744073709551616 := by
 unfold parN
 split
 ·decide
 ·split
  ·decide
  ·omega
theorem div_wrap (n : Nat) (h : n ≤ 64) : wrap64 (IntKind.u64.wrap ((n : Int) / 8)) = ((n / 8 : Nat) : Int) := by
 rw [show (n : Int) / 8 = ((n / 8 : Nat) : Int) by omega, wrapN _ (by omega)]
 unfold wrap64
 omega
def fixV (x : List UInt8) : Value := match fixP x with | some (n, b) => .tuple #[.int .i64 (n : Int), .bool b, .bool true] | none => .tuple #[.int .i64 0, .bool false, .bool false]
theorem str_neC {x y : List UInt8} (h : x ≠ y) : (({ data := x.toArray } : ByteArray).toList == ({ data := y.toArray } : ByteArray).toList) = false := by
 rw [ByteArray.toList_eq, ByteArray.toList_eq]
 simpa using h
theorem trimP_len (x p : List UInt8) : (Lib.trimPrefix x p).length ≤ x.length := by unfold Lib.trimPrefix; split <;> simp
theorem trimS_len (x p : List UInt8) : (Lib.trimSuffix x p).length ≤ x.length := by unfold Lib.trimSuffix; split <;> simp <;> omega
set_option maxRecDepth 100000 in
set_option maxHeartbeats 4000000 in
theorem fixed_any (x : List UInt8) (hx : x.length ≤ 1000000) (w : World) : Calls Tryz.prog 19 #[.string ⟨x.toArray⟩] w fun e w' => e = .returned (fixV x) ∧ w = w' := by
 obtain ⟨S, hS⟩ : ∃ S, S = (⟨x.toArray⟩ : ByteArray) := ⟨_, rfl⟩
 have hSd : S.data.toList = x := by rw [hS]
 have HCp := hid (fun w => Tryz.strings_CutPrefix S ⟨#[117]⟩ w)
 rw [hSd] at HCp
 rw [← hS]
 by_cases h8 : x = [117, 56]
 ·have hq : fixV x = .tuple #[.int .i64 1, .bool false, .bool true] := by unfold fixV fixP; rw [if_pos h8]; rfl
  rw [hq]
  have he : (S.toList == ({ data := #[117, 56] } : ByteArray).toList) = true := by rw [hS, h8]; simp
  clear hS hSd h8 HCp hq
  go_enter Tryz.func19, Tryz.ntmps19
  generalize (ByteArray.mk #[117, 56]) = C1 at *
  go_wp2_with fail
  go_ret3
  exact ⟨rfl, rfl⟩
 ·have he : (S.toList == ({ data := #[117, 56] } : ByteArray).toList) = false := by rw [hS]; exact str_neC h8
  obtain ⟨B, hB⟩ : ∃ B, B = Lib.trimPrefix x [117] := ⟨_, rfl⟩
  obtain ⟨o, ho⟩ : ∃ o, o = Lib.hasPrefix x [117] := ⟨_, rfl⟩
  have hBl : B.length ≤ 1000000 := by rw [hB]; exact Nat.le_trans (trimP_len _ _) hx
  have hCp : ∀ w, Calls Tryz.prog 37 #[.string S, .string ⟨#[117]⟩] w fun e w' => e = .returned (.tuple #[.string ⟨B.toArray⟩, .bool o]) ∧ w' = w := by rw [hB, ho]; exact HCp.out
  have hcl : ∀ (b : Bool) (D : List UInt8), fixP x = fixD D b o → fixV x = (match fixD D b o with | some (n, b) => .tuple #[.int .i64 (n : Int), .bool b, .bool true] | none => .tuple #[.int .i64 0, .bool false, .bool false]) := fun b D h => by unfold fixV; rw [h]
  have hfx : fixP x = if Lib.hasSuffix B [108, 101] = true then fixD (Lib.trimSuffix B [108, 101]) true o else fixD (Lib.trimSuffix B [98, 101]) false (o && Lib.hasSuffix B [98, 101]) := by unfold fixP; rw [if_neg h8, hB, ho]
  have hl1 : (⟨B.toArray⟩ : ByteArray).size ≤ 9223372036854775807 := by show B.toArray.size ≤ _; simp; omega
  have hS1 : ∀ w, Calls Tryz.prog 38 #[.string ⟨B.toArray⟩, .string ⟨#[108, 101]⟩] w fun e w' => e = .returned (.tuple #[.string ⟨(Lib.trimSuffix B [108, 101]).toArray⟩, .bool (Lib.hasSuffix B [108, 101])]) ∧ w' = w := fun w => Tryz.strings_CutSuffix ⟨B.toArray⟩ ⟨#[108, 101]⟩ w hl1
  have hS2 : ∀ w, Calls Tryz.prog 38 #[.string ⟨B.toArray⟩, .string ⟨#[98, 101]⟩] w fun e w' => e = .returned (.tuple #[.string ⟨(Lib.trimSuffix B [98, 101]).toArray⟩, .bool (Lib.hasSuffix B [98, 101])]) ∧ w' = w := fun w => Tryz.strings_CutSuffix ⟨B.toArray⟩ ⟨#[98, 101]⟩ w hl1
  have hP := fun (D : List UInt8) (hD : D.length ≤ 1000000) (w : World) => wparse_any D hD w
  have hD1 : (Lib.trimSuffix B [108, 101]).length ≤ 1000000 := Nat.le_trans (trimS_len _ _) hBl
  have hD2 : (Lib.trimSuffix B [98, 101]).length ≤ 1000000 := Nat.le_trans (trimS_len _ _) hBl
  generalize Lib.trimSuffix B [108, 101] = D1 at *
  generalize Lib.trimSuffix B [98, 101] = D2 at *
  generalize Lib.hasSuffix B [108, 101] = b1 at *
  generalize Lib.hasSuffix B [98, 101] = b2 at *
  clear hS hSd h8 HCp hB ho hBl hl1
  have HC1 := hid hCp
  have HC2 := hid hS1
  have HC3 := hid hS2
  have HP1 := hid (fun w => hP D1 hD1 w)
  have HP2 := hid (fun w => hP D2 hD2 w)
  have HF := hid hfx
  clear hCp hS1 hS2 hP hD1 hD2 hfx hcl
  cases b1
  ·cases o
   ·cases b2
    ·skip
     have hfx : fixP x = fixD D2 false false := by rw [HF.out]; rfl
     have HW := hid (fun w => (show Calls Tryz.prog 40 #[.int .u64 ((parN D2).1 : Int), .int .u64 16, .int .u64 64] w fun e w' => e = .returned (.bool (decide (16 ≤ (parN D2).1 ∧ (parN D2).1 ≤ 64))) ∧ w = w' from within_any (parN D2).1 16 64 w))
     have HLt := hid (parN_lt D2)
     obtain ⟨V, hV⟩ : ∃ V, V = fixV x := ⟨_, rfl⟩
     have HV := hid hV
     have HX := hid hfx
     rw [← hV]
     clear hV hfx HF
     go_enter Tryz.func19, Tryz.ntmps19
     generalize (ByteArray.mk #[117, 56]) = C1 at *
     go_wp2_with (first
     | (go_at_call 37; (with_reducible refine (HC1.out _).mono ?_); rintro e w' ⟨rfl, rfl⟩)
     | (go_at_call 38; (with_reducible refine (HC2.out _).mono ?_); rintro e w' ⟨rfl, rfl⟩)
     | (go_at_call 38; (with_reducible refine (HC3.out _).mono ?_); rintro e w' ⟨rfl, rfl⟩)
     | (go_at_call 39; (with_reducible refine (HP2.out _).mono ?_); rintro e w' ⟨rfl, rfl⟩)
     | (go_at_call 40; (with_reducible refine (HW.out _).mono ?_); rintro e w' ⟨rfl, rfl⟩))
     go_ret3
     refine ⟨?_, rfl⟩
     rw [HV.out]
     unfold fixV
     rw [HX.out]
     unfold fixD
     rw [if_neg (by simp)]
     rfl
    ·skip
     have hfx : fixP x = fixD D2 false false := by rw [HF.out]; rfl
     have HW := hid (fun w => (show Calls Tryz.prog 40 #[.int .u64 ((parN D2).1 : Int), .int .u64 16, .int .u64 64] w fun e w' => e = .returned (.bool (decide (16 ≤ (parN D2).1 ∧ (parN D2).1 ≤ 64))) ∧ w = w' from within_any (parN D2).1 16 64 w))
     have HLt := hid (parN_lt D2)
     obtain ⟨V, hV⟩ : ∃ V, V = fixV x := ⟨_, rfl⟩
     have HV := hid hV
     have HX := hid hfx
     rw [← hV]
     clear hV hfx HF
     go_enter Tryz.func19, Tryz.ntmps19
     generalize (ByteArray.mk #[117, 56]) = C1 at *
     go_wp2_with (first
     | (go_at_call 37; (with_reducible refine (HC1.out _).mono ?_); rintro e w' ⟨rfl, rfl⟩)
     | (go_at_call 38; (with_reducible refine (HC2.out _).mono ?_); rintro e w' ⟨rfl, rfl⟩)
     | (go_at_call 38; (with_reducible refine (HC3.out _).mono ?_); rintro e w' ⟨rfl, rfl⟩)
     | (go_at_call 39; (with_reducible refine (HP2.out _).mono ?_); rintro e w' ⟨rfl, rfl⟩)
     | (go_at_call 40; (with_reducible refine (HW.out _).mono ?_); rintro e w' ⟨rfl, rfl⟩))
     go_ret3
     refine ⟨?_, rfl⟩
     rw [HV.out]
     unfold fixV
     rw [HX.out]
     unfold fixD
     rw [if_neg (by simp)]
     rfl
   ·cases b2
    ·skip
     have hfx : fixP x = fixD D2 false false := by rw [HF.out]; rfl
     have HW := hid (fun w => (show Calls Tryz.prog 40 #[.int .u64 ((parN D2).1 : Int), .int .u64 16, .int .u64 64] w fun e w' => e = .returned (.bool (decide (16 ≤ (parN D2).1 ∧ (parN D2).1 ≤ 64))) ∧ w = w' from within_any (parN D2).1 16 64 w))
     have HLt := hid (parN_lt D2)
     obtain ⟨V, hV⟩ : ∃ V, V = fixV x := ⟨_, rfl⟩
     have HV := hid hV
     have HX := hid hfx
     rw [← hV]
     clear hV hfx HF
     go_enter Tryz.func19, Tryz.ntmps19
     generalize (ByteArray.mk #[117, 56]) = C1 at *
     go_wp2_with (first
     | (go_at_call 37; (with_reducible refine (HC1.out _).mono ?_); rintro e w' ⟨rfl, rfl⟩)
     | (go_at_call 38; (with_reducible refine (HC2.out _).mono ?_); rintro e w' ⟨rfl, rfl⟩)
     | (go_at_call 38; (with_reducible refine (HC3.out _).mono ?_); rintro e w' ⟨rfl, rfl⟩)
     | (go_at_call 39; (with_reducible refine (HP2.out _).mono ?_); rintro e w' ⟨rfl, rfl⟩)
     | (go_at_call 40; (with_reducible refine (HW.out _).mono ?_); rintro e w' ⟨rfl, rfl⟩))
     go_ret3
     refine ⟨?_, rfl⟩
     rw [HV.out]
     unfold fixV
     rw [HX.out]
     unfold fixD
     rw [if_neg (by simp)]
     rfl
    ·skip
     have hfx : fixP x = fixD D2 false true := by rw [HF.out]; rfl
     have HW := hid (fun w => (show Calls Tryz.prog 40 #[.int .u64 ((parN D2).1 : Int), .int .u64 16, .int .u64 64] w fun e w' => e = .returned (.bool (decide (16 ≤ (parN D2).1 ∧ (parN D2).1 ≤ 64))) ∧ w = w' from within_any (parN D2).1 16 64 w))
     have HLt := hid (parN_lt D2)
     obtain ⟨V, hV⟩ : ∃ V, V = fixV x := ⟨_, rfl⟩
     have HV := hid hV
     have HX := hid hfx
     rw [← hV]
     clear hV hfx HF
     obtain ⟨n, hn⟩ : ∃ n, n = (parN D2).1 := ⟨_, rfl⟩
     obtain ⟨er, her⟩ : ∃ er, er = (parN D2).2 := ⟨_, rfl⟩
     rw [← hn] at HW HLt
     rw [← hn, ← her] at HP2
     have HN := hid hn
     have HE := hid her
     clear hn her
     by_cases he0 : er = 0
     rotate_left
     ·have heb : ((er : Int) == 0) = false := by simpa using he0
      have HZ := hid he0
      clear he0
      go_enter Tryz.func19, Tryz.ntmps19
      generalize (ByteArray.mk #[117, 56]) = C1 at *
      go_wp2_with (first
     | (go_at_call 37; (with_reducible refine (HC1.out _).mono ?_); rintro e w' ⟨rfl, rfl⟩)
     | (go_at_call 38; (with_reducible refine (HC2.out _).mono ?_); rintro e w' ⟨rfl, rfl⟩)
     | (go_at_call 38; (with_reducible refine (HC3.out _).mono ?_); rintro e w' ⟨rfl, rfl⟩)
     | (go_at_call 39; (with_reducible refine (HP2.out _).mono ?_); rintro e w' ⟨rfl, rfl⟩)
     | (go_at_call 40; (with_reducible refine (HW.out _).mono ?_); rintro e w' ⟨rfl, rfl⟩))
      go_ret3
      refine ⟨?_, rfl⟩
      rw [HV.out]
      unfold fixV
      rw [HX.out]
      unfold fixD
      rw [if_neg (by rw [← HE.out]; exact fun h => HZ.out h.2.1)]
      rfl
     ·subst he0
      by_cases hw : 16 ≤ n ∧ n ≤ 64
      rotate_left
      ·have hwb : decide (16 ≤ n ∧ n ≤ 64) = false := decide_eq_false hw
       rw [hwb] at HW
       have HZ := hid hw
       clear hw hwb
       go_enter Tryz.func19, Tryz.ntmps19
       generalize (ByteArray.mk #[117, 56]) = C1 at *
       go_wp2_with (first
     | (go_at_call 37; (with_reducible refine (HC1.out _).mono ?_); rintro e w' ⟨rfl, rfl⟩)
     | (go_at_call 38; (with_reducible refine (HC2.out _).mono ?_); rintro e w' ⟨rfl, rfl⟩)
     | (go_at_call 38; (with_reducible refine (HC3.out _).mono ?_); rintro e w' ⟨rfl, rfl⟩)
     | (go_at_call 39; (with_reducible refine (HP2.out _).mono ?_); rintro e w' ⟨rfl, rfl⟩)
     | (go_at_call 40; (with_reducible refine (HW.out _).mono ?_); rintro e w' ⟨rfl, rfl⟩))
       go_ret3
       refine ⟨?_, rfl⟩
       rw [HV.out]
       unfold fixV
       rw [HX.out]
       unfold fixD
       rw [if_neg (by rw [← HN.out]; exact fun h => HZ.out ⟨h.2.2.1, h.2.2.2.1⟩)]
       rfl
      ·have hwb : decide (16 ≤ n ∧ n ≤ 64) = true := decide_eq_true hw
       rw [hwb] at HW
       have HZ := hid hw
       clear hw hwb
       by_cases hm : n % 8 = 0
       rotate_left
       ·have hmi : ¬ ((n : Int) % 8 = 0) := by omega
        have hmb : ((n : Int) % 8 == 0) = false := by simpa using hmi
        have HM := hid hm
        clear hm
        go_enter Tryz.func19, Tryz.ntmps19
        generalize (ByteArray.mk #[117, 56]) = C1 at *
        go_wp2_with (first
     | (go_at_call 37; (with_reducible refine (HC1.out _).mono ?_); rintro e w' ⟨rfl, rfl⟩)
     | (go_at_call 38; (with_reducible refine (HC2.out _).mono ?_); rintro e w' ⟨rfl, rfl⟩)
     | (go_at_call 38; (with_reducible refine (HC3.out _).mono ?_); rintro e w' ⟨rfl, rfl⟩)
     | (go_at_call 39; (with_reducible refine (HP2.out _).mono ?_); rintro e w' ⟨rfl, rfl⟩)
     | (go_at_call 40; (with_reducible refine (HW.out _).mono ?_); rintro e w' ⟨rfl, rfl⟩))
        go_ret3
        refine ⟨?_, rfl⟩
        rw [HV.out]
        unfold fixV
        rw [HX.out]
        unfold fixD
        rw [if_neg (by rw [← HN.out]; exact fun h => HM.out h.2.2.2.2)]
        rfl
       ·have hmi : (n : Int) % 8 = 0 := by omega
        have HM := hid hm
        clear hm
        go_enter Tryz.func19, Tryz.ntmps19
        generalize (ByteArray.mk #[117, 56]) = C1 at *
        go_wp2_with (first
     | (go_at_call 37; (with_reducible refine (HC1.out _).mono ?_); rintro e w' ⟨rfl, rfl⟩)
     | (go_at_call 38; (with_reducible refine (HC2.out _).mono ?_); rintro e w' ⟨rfl, rfl⟩)
     | (go_at_call 38; (with_reducible refine (HC3.out _).mono ?_); rintro e w' ⟨rfl, rfl⟩)
     | (go_at_call 39; (with_reducible refine (HP2.out _).mono ?_); rintro e w' ⟨rfl, rfl⟩)
     | (go_at_call 40; (with_reducible refine (HW.out _).mono ?_); rintro e w' ⟨rfl, rfl⟩))
        go_ret3
        refine ⟨?_, rfl⟩
        rw [HV.out]
        unfold fixV
        rw [HX.out]
        unfold fixD
        rw [if_pos (by rw [← HN.out, ← HE.out]; exact ⟨by rfl, rfl, HZ.out.1, HZ.out.2, HM.out⟩), ← HN.out]
        show _ = Ending.returned (.tuple #[.int .i64 ((n / 8 : Nat) : Int), _, _])
        rw [← div_wrap n HZ.out.2]
        rfl
  ·cases o
   ·skip
    have hfx : fixP x = fixD D1 true false := by rw [HF.out]; rfl
    have HW := hid (fun w => (show Calls Tryz.prog 40 #[.int .u64 ((parN D1).1 : Int), .int .u64 16, .int .u64 64] w fun e w' => e = .returned (.bool (decide (16 ≤ (parN D1).1 ∧ (parN D1).1 ≤ 64))) ∧ w = w' from within_any (parN D1).1 16 64 w))
    have HLt := hid (parN_lt D1)
    obtain ⟨V, hV⟩ : ∃ V, V = fixV x := ⟨_, rfl⟩
    have HV := hid hV
    have HX := hid hfx
    rw [← hV]
    clear hV hfx HF
    go_enter Tryz.func19, Tryz.ntmps19
    generalize (ByteArray.mk #[117, 56]) = C1 at *
    go_wp2_with (first
     | (go_at_call 37; (with_reducible refine (HC1.out _).mono ?_); rintro e w' ⟨rfl, rfl⟩)
     | (go_at_call 38; (with_reducible refine (HC2.out _).mono ?_); rintro e w' ⟨rfl, rfl⟩)
     | (go_at_call 38; (with_reducible refine (HC3.out _).mono ?_); rintro e w' ⟨rfl, rfl⟩)
     | (go_at_call 39; (with_reducible refine (HP1.out _).mono ?_); rintro e w' ⟨rfl, rfl⟩)
     | (go_at_call 40; (with_reducible refine (HW.out _).mono ?_); rintro e w' ⟨rfl, rfl⟩))
    go_ret3
    refine ⟨?_, rfl⟩
    rw [HV.out]
    unfold fixV
    rw [HX.out]
    unfold fixD
    rw [if_neg (by simp)]
    rfl
   ·skip
    have hfx : fixP x = fixD D1 true true := by rw [HF.out]; rfl
    have HW := hid (fun w => (show Calls Tryz.prog 40 #[.int .u64 ((parN D1).1 : Int), .int .u64 16, .int .u64 64] w fun e w' => e = .returned (.bool (decide (16 ≤ (parN D1).1 ∧ (parN D1).1 ≤ 64))) ∧ w = w' from within_any (parN D1).1 16 64 w))
    have HLt := hid (parN_lt D1)
    obtain ⟨V, hV⟩ : ∃ V, V = fixV x := ⟨_, rfl⟩
    have HV := hid hV
    have HX := hid hfx
    rw [← hV]
    clear hV hfx HF
    obtain ⟨n, hn⟩ : ∃ n, n = (parN D1).1 := ⟨_, rfl⟩
    obtain ⟨er, her⟩ : ∃ er, er = (parN D1).2 := ⟨_, rfl⟩
    rw [← hn] at HW HLt
    rw [← hn, ← her] at HP1
    have HN := hid hn
    have HE := hid her
    clear hn her
    by_cases he0 : er = 0
    rotate_left
    ·have heb : ((er : Int) == 0) = false := by simpa using he0
     have HZ := hid he0
     clear he0
     go_enter Tryz.func19, Tryz.ntmps19
     generalize (ByteArray.mk #[117, 56]) = C1 at *
     go_wp2_with (first
     | (go_at_call 37; (with_reducible refine (HC1.out _).mono ?_); rintro e w' ⟨rfl, rfl⟩)
     | (go_at_call 38; (with_reducible refine (HC2.out _).mono ?_); rintro e w' ⟨rfl, rfl⟩)
     | (go_at_call 38; (with_reducible refine (HC3.out _).mono ?_); rintro e w' ⟨rfl, rfl⟩)
     | (go_at_call 39; (with_reducible refine (HP1.out _).mono ?_); rintro e w' ⟨rfl, rfl⟩)
     | (go_at_call 40; (with_reducible refine (HW.out _).mono ?_); rintro e w' ⟨rfl, rfl⟩))
     go_ret3
     refine ⟨?_, rfl⟩
     rw [HV.out]
     unfold fixV
     rw [HX.out]
     unfold fixD
     rw [if_neg (by rw [← HE.out]; exact fun h => HZ.out h.2.1)]
     rfl
    ·subst he0
     by_cases hw : 16 ≤ n ∧ n ≤ 64
     rotate_left
     ·have hwb : decide (16 ≤ n ∧ n ≤ 64) = false := decide_eq_false hw
      rw [hwb] at HW
      have HZ := hid hw
      clear hw hwb
      go_enter Tryz.func19, Tryz.ntmps19
      generalize (ByteArray.mk #[117, 56]) = C1 at *
      go_wp2_with (first
     | (go_at_call 37; (with_reducible refine (HC1.out _).mono ?_); rintro e w' ⟨rfl, rfl⟩)
     | (go_at_call 38; (with_reducible refine (HC2.out _).mono ?_); rintro e w' ⟨rfl, rfl⟩)
     | (go_at_call 38; (with_reducible refine (HC3.out _).mono ?_); rintro e w' ⟨rfl, rfl⟩)
     | (go_at_call 39; (with_reducible refine (HP1.out _).mono ?_); rintro e w' ⟨rfl, rfl⟩)
     | (go_at_call 40; (with_reducible refine (HW.out _).mono ?_); rintro e w' ⟨rfl, rfl⟩))
      go_ret3
      refine ⟨?_, rfl⟩
      rw [HV.out]
      unfold fixV
      rw [HX.out]
      unfold fixD
      rw [if_neg (by rw [← HN.out]; exact fun h => HZ.out ⟨h.2.2.1, h.2.2.2.1⟩)]
      rfl
     ·have hwb : decide (16 ≤ n ∧ n ≤ 64) = true := decide_eq_true hw
      rw [hwb] at HW
      have HZ := hid hw
      clear hw hwb
      by_cases hm : n % 8 = 0
      rotate_left
      ·have hmi : ¬ ((n : Int) % 8 = 0) := by omega
       have hmb : ((n : Int) % 8 == 0) = false := by simpa using hmi
       have HM := hid hm
       clear hm
       go_enter Tryz.func19, Tryz.ntmps19
       generalize (ByteArray.mk #[117, 56]) = C1 at *
       go_wp2_with (first
     | (go_at_call 37; (with_reducible refine (HC1.out _).mono ?_); rintro e w' ⟨rfl, rfl⟩)
     | (go_at_call 38; (with_reducible refine (HC2.out _).mono ?_); rintro e w' ⟨rfl, rfl⟩)
     | (go_at_call 38; (with_reducible refine (HC3.out _).mono ?_); rintro e w' ⟨rfl, rfl⟩)
     | (go_at_call 39; (with_reducible refine (HP1.out _).mono ?_); rintro e w' ⟨rfl, rfl⟩)
     | (go_at_call 40; (with_reducible refine (HW.out _).mono ?_); rintro e w' ⟨rfl, rfl⟩))
       go_ret3
       refine ⟨?_, rfl⟩
       rw [HV.out]
       unfold fixV
       rw [HX.out]
       unfold fixD
       rw [if_neg (by rw [← HN.out]; exact fun h => HM.out h.2.2.2.2)]
       rfl
      ·have hmi : (n : Int) % 8 = 0 := by omega
       have HM := hid hm
       clear hm
       go_enter Tryz.func19, Tryz.ntmps19
       generalize (ByteArray.mk #[117, 56]) = C1 at *
       go_wp2_with (first
     | (go_at_call 37; (with_reducible refine (HC1.out _).mono ?_); rintro e w' ⟨rfl, rfl⟩)
     | (go_at_call 38; (with_reducible refine (HC2.out _).mono ?_); rintro e w' ⟨rfl, rfl⟩)
     | (go_at_call 38; (with_reducible refine (HC3.out _).mono ?_); rintro e w' ⟨rfl, rfl⟩)
     | (go_at_call 39; (with_reducible refine (HP1.out _).mono ?_); rintro e w' ⟨rfl, rfl⟩)
     | (go_at_call 40; (with_reducible refine (HW.out _).mono ?_); rintro e w' ⟨rfl, rfl⟩))
       go_ret3
       refine ⟨?_, rfl⟩
       rw [HV.out]
       unfold fixV
       rw [HX.out]
       unfold fixD
       rw [if_pos (by rw [← HN.out, ← HE.out]; exact ⟨by rfl, rfl, HZ.out.1, HZ.out.2, HM.out⟩), ← HN.out]
       show _ = Ending.returned (.tuple #[.int .i64 ((n / 8 : Nat) : Int), _, _])
       rw [← div_wrap n HZ.out.2]
       rfl
end Go.Proofs.YtfcccfplmdjndaaGreat
