/- parse: Word, begins. -/
import Derived.Test.YtfcccfplmdjndaaGreatPaT
namespace Go.Proofs.YtfcccfplmdjndaaGreat
set_option linter.unusedSimpArgs false
set_option linter.unusedVariables false
open Go.RowKit

theorem fix_ok (x : List UInt8) : ∃ n b, fixV x = .tuple #[.int .i64 n, .bool b, .bool (fixP x).isSome] := by
 unfold fixV
 cases fixP x with
 | none => exact ⟨_, _, rfl⟩
 | some p => exact ⟨_, _, rfl⟩
theorem str_eqC {x y : List UInt8} (h : x = y) : (({ data := x.toArray } : ByteArray).toList == ({ data := y.toArray } : ByteArray).toList) = true := by
 rw [h]
 simp
set_option maxRecDepth 100000 in
set_option maxHeartbeats 4000000 in
theorem word_any (x : List UInt8) (hx : x.length ≤ 1000000) (w : World) : Calls Tryz.prog 11 #[.string ⟨x.toArray⟩] w fun e w' => e = .returned (.bool (wordP x)) ∧ w = w' := by
 obtain ⟨S, hS⟩ : ∃ S, S = (⟨x.toArray⟩ : ByteArray) := ⟨_, rfl⟩
 obtain ⟨R, hR⟩ : ∃ R, R = wordP x := ⟨_, rfl⟩
 have HR := hid hR
 have HFx := hid (fun w => fixed_any x hx w)
 obtain ⟨fn, fb, hfv⟩ := fix_ok x
 rw [hfv, ← hS] at HFx
 clear hfv
 rw [← hS, ← hR]
 clear hR
 by_cases h0 : x = s_varint
 ·skip
  have e0 : (S.toList == ({ data := #[118, 97, 114, 105, 110, 116] } : ByteArray).toList) = true := by rw [hS]; exact str_eqC h0
  have HZ := hid (show wordP x = true from by unfold wordP sWords; rw [h0]; decide)
  clear hS h0
  go_enter Tryz.func11, Tryz.ntmps11
  generalize (ByteArray.mk #[118, 97, 114, 105, 110, 116]) = K0 at *; generalize (ByteArray.mk #[122, 105, 103, 122, 97, 103]) = K1 at *; generalize (ByteArray.mk #[108, 101, 110, 105, 101, 110, 116]) = K2 at *; generalize (ByteArray.mk #[98, 121, 116, 101, 115]) = K3 at *; generalize (ByteArray.mk #[116, 105, 109, 101, 115]) = K4 at *; generalize (ByteArray.mk #[109, 97, 110, 121]) = K5 at *; generalize (ByteArray.mk #[119, 105, 116, 104, 105, 110]) = K6 at *; generalize (ByteArray.mk #[115, 119, 105, 116, 99, 104]) = K7 at *; generalize (ByteArray.mk #[101, 108, 115, 101]) = K8 at *; generalize (ByteArray.mk #[111, 110, 101, 111, 102]) = K9 at *; generalize (ByteArray.mk #[99, 104, 97, 105, 110]) = K10 at *; generalize (ByteArray.mk #[108, 97, 115, 116]) = K11 at *; generalize (ByteArray.mk #[101, 109, 112, 116, 121]) = K12 at *; generalize (ByteArray.mk #[115, 105, 122, 101]) = K13 at *; generalize (ByteArray.mk #[99, 111, 117, 110, 116]) = K14 at *; generalize (ByteArray.mk #[99, 114, 99]) = K15 at *
  go_wp2_with fail
  go_ret
  rw [HR.out, HZ.out]
  exact ⟨rfl, rfl⟩
 ·skip
  by_cases h1 : x = s_zigzag
  ·skip
   have e0 : (S.toList == ({ data := #[118, 97, 114, 105, 110, 116] } : ByteArray).toList) = false := by rw [hS]; exact str_neC h0
   have e1 : (S.toList == ({ data := #[122, 105, 103, 122, 97, 103] } : ByteArray).toList) = true := by rw [hS]; exact str_eqC h1
   have HZ := hid (show wordP x = true from by unfold wordP sWords; rw [h1]; decide)
   clear hS h0 h1
   go_enter Tryz.func11, Tryz.ntmps11
   generalize (ByteArray.mk #[118, 97, 114, 105, 110, 116]) = K0 at *; generalize (ByteArray.mk #[122, 105, 103, 122, 97, 103]) = K1 at *; generalize (ByteArray.mk #[108, 101, 110, 105, 101, 110, 116]) = K2 at *; generalize (ByteArray.mk #[98, 121, 116, 101, 115]) = K3 at *; generalize (ByteArray.mk #[116, 105, 109, 101, 115]) = K4 at *; generalize (ByteArray.mk #[109, 97, 110, 121]) = K5 at *; generalize (ByteArray.mk #[119, 105, 116, 104, 105, 110]) = K6 at *; generalize (ByteArray.mk #[115, 119, 105, 116, 99, 104]) = K7 at *; generalize (ByteArray.mk #[101, 108, 115, 101]) = K8 at *; generalize (ByteArray.mk #[111, 110, 101, 111, 102]) = K9 at *; generalize (ByteArray.mk #[99, 104, 97, 105, 110]) = K10 at *; generalize (ByteArray.mk #[108, 97, 115, 116]) = K11 at *; generalize (ByteArray.mk #[101, 109, 112, 116, 121]) = K12 at *; generalize (ByteArray.mk #[115, 105, 122, 101]) = K13 at *; generalize (ByteArray.mk #[99, 111, 117, 110, 116]) = K14 at *; generalize (ByteArray.mk #[99, 114, 99]) = K15 at *
   go_wp2_with fail
   go_ret
   rw [HR.out, HZ.out]
   exact ⟨rfl, rfl⟩
  ·skip
   by_cases h2 : x = s_lenient
   ·skip
    have e0 : (S.toList == ({ data := #[118, 97, 114, 105, 110, 116] } : ByteArray).toList) = false := by rw [hS]; exact str_neC h0
    have e1 : (S.toList == ({ data := #[122, 105, 103, 122, 97, 103] } : ByteArray).toList) = false := by rw [hS]; exact str_neC h1
    have e2 : (S.toList == ({ data := #[108, 101, 110, 105, 101, 110, 116] } : ByteArray).toList) = true := by rw [hS]; exact str_eqC h2
    have HZ := hid (show wordP x = true from by unfold wordP sWords; rw [h2]; decide)
    clear hS h0 h1 h2
    go_enter Tryz.func11, Tryz.ntmps11
    generalize (ByteArray.mk #[118, 97, 114, 105, 110, 116]) = K0 at *; generalize (ByteArray.mk #[122, 105, 103, 122, 97, 103]) = K1 at *; generalize (ByteArray.mk #[108, 101, 110, 105, 101, 110, 116]) = K2 at *; generalize (ByteArray.mk #[98, 121, 116, 101, 115]) = K3 at *; generalize (ByteArray.mk #[116, 105, 109, 101, 115]) = K4 at *; generalize (ByteArray.mk #[109, 97, 110, 121]) = K5 at *; generalize (ByteArray.mk #[119, 105, 116, 104, 105, 110]) = K6 at *; generalize (ByteArray.mk #[115, 119, 105, 116, 99, 104]) = K7 at *; generalize (ByteArray.mk #[101, 108, 115, 101]) = K8 at *; generalize (ByteArray.mk #[111, 110, 101, 111, 102]) = K9 at *; generalize (ByteArray.mk #[99, 104, 97, 105, 110]) = K10 at *; generalize (ByteArray.mk #[108, 97, 115, 116]) = K11 at *; generalize (ByteArray.mk #[101, 109, 112, 116, 121]) = K12 at *; generalize (ByteArray.mk #[115, 105, 122, 101]) = K13 at *; generalize (ByteArray.mk #[99, 111, 117, 110, 116]) = K14 at *; generalize (ByteArray.mk #[99, 114, 99]) = K15 at *
    go_wp2_with fail
    go_ret
    rw [HR.out, HZ.out]
    exact ⟨rfl, rfl⟩
   ·skip
    by_cases h3 : x = s_bytes
    ·skip
     have e0 : (S.toList == ({ data := #[118, 97, 114, 105, 110, 116] } : ByteArray).toList) = false := by rw [hS]; exact str_neC h0
     have e1 : (S.toList == ({ data := #[122, 105, 103, 122, 97, 103] } : ByteArray).toList) = false := by rw [hS]; exact str_neC h1
     have e2 : (S.toList == ({ data := #[108, 101, 110, 105, 101, 110, 116] } : ByteArray).toList) = false := by rw [hS]; exact str_neC h2
     have e3 : (S.toList == ({ data := #[98, 121, 116, 101, 115] } : ByteArray).toList) = true := by rw [hS]; exact str_eqC h3
     have HZ := hid (show wordP x = true from by unfold wordP sWords; rw [h3]; decide)
     clear hS h0 h1 h2 h3
     go_enter Tryz.func11, Tryz.ntmps11
     generalize (ByteArray.mk #[118, 97, 114, 105, 110, 116]) = K0 at *; generalize (ByteArray.mk #[122, 105, 103, 122, 97, 103]) = K1 at *; generalize (ByteArray.mk #[108, 101, 110, 105, 101, 110, 116]) = K2 at *; generalize (ByteArray.mk #[98, 121, 116, 101, 115]) = K3 at *; generalize (ByteArray.mk #[116, 105, 109, 101, 115]) = K4 at *; generalize (ByteArray.mk #[109, 97, 110, 121]) = K5 at *; generalize (ByteArray.mk #[119, 105, 116, 104, 105, 110]) = K6 at *; generalize (ByteArray.mk #[115, 119, 105, 116, 99, 104]) = K7 at *; generalize (ByteArray.mk #[101, 108, 115, 101]) = K8 at *; generalize (ByteArray.mk #[111, 110, 101, 111, 102]) = K9 at *; generalize (ByteArray.mk #[99, 104, 97, 105, 110]) = K10 at *; generalize (ByteArray.mk #[108, 97, 115, 116]) = K11 at *; generalize (ByteArray.mk #[101, 109, 112, 116, 121]) = K12 at *; generalize (ByteArray.mk #[115, 105, 122, 101]) = K13 at *; generalize (ByteArray.mk #[99, 111, 117, 110, 116]) = K14 at *; generalize (ByteArray.mk #[99, 114, 99]) = K15 at *
     go_wp2_with fail
     go_ret
     rw [HR.out, HZ.out]
     exact ⟨rfl, rfl⟩
    ·skip
     by_cases h4 : x = s_times
     ·skip
      have e0 : (S.toList == ({ data := #[118, 97, 114, 105, 110, 116] } : ByteArray).toList) = false := by rw [hS]; exact str_neC h0
      have e1 : (S.toList == ({ data := #[122, 105, 103, 122, 97, 103] } : ByteArray).toList) = false := by rw [hS]; exact str_neC h1
      have e2 : (S.toList == ({ data := #[108, 101, 110, 105, 101, 110, 116] } : ByteArray).toList) = false := by rw [hS]; exact str_neC h2
      have e3 : (S.toList == ({ data := #[98, 121, 116, 101, 115] } : ByteArray).toList) = false := by rw [hS]; exact str_neC h3
      have e4 : (S.toList == ({ data := #[116, 105, 109, 101, 115] } : ByteArray).toList) = true := by rw [hS]; exact str_eqC h4
      have HZ := hid (show wordP x = true from by unfold wordP sWords; rw [h4]; decide)
      clear hS h0 h1 h2 h3 h4
      go_enter Tryz.func11, Tryz.ntmps11
      generalize (ByteArray.mk #[118, 97, 114, 105, 110, 116]) = K0 at *; generalize (ByteArray.mk #[122, 105, 103, 122, 97, 103]) = K1 at *; generalize (ByteArray.mk #[108, 101, 110, 105, 101, 110, 116]) = K2 at *; generalize (ByteArray.mk #[98, 121, 116, 101, 115]) = K3 at *; generalize (ByteArray.mk #[116, 105, 109, 101, 115]) = K4 at *; generalize (ByteArray.mk #[109, 97, 110, 121]) = K5 at *; generalize (ByteArray.mk #[119, 105, 116, 104, 105, 110]) = K6 at *; generalize (ByteArray.mk #[115, 119, 105, 116, 99, 104]) = K7 at *; generalize (ByteArray.mk #[101, 108, 115, 101]) = K8 at *; generalize (ByteArray.mk #[111, 110, 101, 111, 102]) = K9 at *; generalize (ByteArray.mk #[99, 104, 97, 105, 110]) = K10 at *; generalize (ByteArray.mk #[108, 97, 115, 116]) = K11 at *; generalize (ByteArray.mk #[101, 109, 112, 116, 121]) = K12 at *; generalize (ByteArray.mk #[115, 105, 122, 101]) = K13 at *; generalize (ByteArray.mk #[99, 111, 117, 110, 116]) = K14 at *; generalize (ByteArray.mk #[99, 114, 99]) = K15 at *
      go_wp2_with fail
      go_ret
      rw [HR.out, HZ.out]
      exact ⟨rfl, rfl⟩
     ·skip
      by_cases h5 : x = s_many
      ·skip
       have e0 : (S.toList == ({ data := #[118, 97, 114, 105, 110, 116] } : ByteArray).toList) = false := by rw [hS]; exact str_neC h0
       have e1 : (S.toList == ({ data := #[122, 105, 103, 122, 97, 103] } : ByteArray).toList) = false := by rw [hS]; exact str_neC h1
       have e2 : (S.toList == ({ data := #[108, 101, 110, 105, 101, 110, 116] } : ByteArray).toList) = false := by rw [hS]; exact str_neC h2
       have e3 : (S.toList == ({ data := #[98, 121, 116, 101, 115] } : ByteArray).toList) = false := by rw [hS]; exact str_neC h3
       have e4 : (S.toList == ({ data := #[116, 105, 109, 101, 115] } : ByteArray).toList) = false := by rw [hS]; exact str_neC h4
       have e5 : (S.toList == ({ data := #[109, 97, 110, 121] } : ByteArray).toList) = true := by rw [hS]; exact str_eqC h5
       have HZ := hid (show wordP x = true from by unfold wordP sWords; rw [h5]; decide)
       clear hS h0 h1 h2 h3 h4 h5
       go_enter Tryz.func11, Tryz.ntmps11
       generalize (ByteArray.mk #[118, 97, 114, 105, 110, 116]) = K0 at *; generalize (ByteArray.mk #[122, 105, 103, 122, 97, 103]) = K1 at *; generalize (ByteArray.mk #[108, 101, 110, 105, 101, 110, 116]) = K2 at *; generalize (ByteArray.mk #[98, 121, 116, 101, 115]) = K3 at *; generalize (ByteArray.mk #[116, 105, 109, 101, 115]) = K4 at *; generalize (ByteArray.mk #[109, 97, 110, 121]) = K5 at *; generalize (ByteArray.mk #[119, 105, 116, 104, 105, 110]) = K6 at *; generalize (ByteArray.mk #[115, 119, 105, 116, 99, 104]) = K7 at *; generalize (ByteArray.mk #[101, 108, 115, 101]) = K8 at *; generalize (ByteArray.mk #[111, 110, 101, 111, 102]) = K9 at *; generalize (ByteArray.mk #[99, 104, 97, 105, 110]) = K10 at *; generalize (ByteArray.mk #[108, 97, 115, 116]) = K11 at *; generalize (ByteArray.mk #[101, 109, 112, 116, 121]) = K12 at *; generalize (ByteArray.mk #[115, 105, 122, 101]) = K13 at *; generalize (ByteArray.mk #[99, 111, 117, 110, 116]) = K14 at *; generalize (ByteArray.mk #[99, 114, 99]) = K15 at *
       go_wp2_with fail
       go_ret
       rw [HR.out, HZ.out]
       exact ⟨rfl, rfl⟩
      ·skip
       by_cases h6 : x = s_within
       ·skip
        have e0 : (S.toList == ({ data := #[118, 97, 114, 105, 110, 116] } : ByteArray).toList) = false := by rw [hS]; exact str_neC h0
        have e1 : (S.toList == ({ data := #[122, 105, 103, 122, 97, 103] } : ByteArray).toList) = false := by rw [hS]; exact str_neC h1
        have e2 : (S.toList == ({ data := #[108, 101, 110, 105, 101, 110, 116] } : ByteArray).toList) = false := by rw [hS]; exact str_neC h2
        have e3 : (S.toList == ({ data := #[98, 121, 116, 101, 115] } : ByteArray).toList) = false := by rw [hS]; exact str_neC h3
        have e4 : (S.toList == ({ data := #[116, 105, 109, 101, 115] } : ByteArray).toList) = false := by rw [hS]; exact str_neC h4
        have e5 : (S.toList == ({ data := #[109, 97, 110, 121] } : ByteArray).toList) = false := by rw [hS]; exact str_neC h5
        have e6 : (S.toList == ({ data := #[119, 105, 116, 104, 105, 110] } : ByteArray).toList) = true := by rw [hS]; exact str_eqC h6
        have HZ := hid (show wordP x = true from by unfold wordP sWords; rw [h6]; decide)
        clear hS h0 h1 h2 h3 h4 h5 h6
        go_enter Tryz.func11, Tryz.ntmps11
        generalize (ByteArray.mk #[118, 97, 114, 105, 110, 116]) = K0 at *; generalize (ByteArray.mk #[122, 105, 103, 122, 97, 103]) = K1 at *; generalize (ByteArray.mk #[108, 101, 110, 105, 101, 110, 116]) = K2 at *; generalize (ByteArray.mk #[98, 121, 116, 101, 115]) = K3 at *; generalize (ByteArray.mk #[116, 105, 109, 101, 115]) = K4 at *; generalize (ByteArray.mk #[109, 97, 110, 121]) = K5 at *; generalize (ByteArray.mk #[119, 105, 116, 104, 105, 110]) = K6 at *; generalize (ByteArray.mk #[115, 119, 105, 116, 99, 104]) = K7 at *; generalize (ByteArray.mk #[101, 108, 115, 101]) = K8 at *; generalize (ByteArray.mk #[111, 110, 101, 111, 102]) = K9 at *; generalize (ByteArray.mk #[99, 104, 97, 105, 110]) = K10 at *; generalize (ByteArray.mk #[108, 97, 115, 116]) = K11 at *; generalize (ByteArray.mk #[101, 109, 112, 116, 121]) = K12 at *; generalize (ByteArray.mk #[115, 105, 122, 101]) = K13 at *; generalize (ByteArray.mk #[99, 111, 117, 110, 116]) = K14 at *; generalize (ByteArray.mk #[99, 114, 99]) = K15 at *
        go_wp2_with fail
        go_ret
        rw [HR.out, HZ.out]
        exact ⟨rfl, rfl⟩
       ·skip
        by_cases h7 : x = s_switch
        ·skip
         have e0 : (S.toList == ({ data := #[118, 97, 114, 105, 110, 116] } : ByteArray).toList) = false := by rw [hS]; exact str_neC h0
         have e1 : (S.toList == ({ data := #[122, 105, 103, 122, 97, 103] } : ByteArray).toList) = false := by rw [hS]; exact str_neC h1
         have e2 : (S.toList == ({ data := #[108, 101, 110, 105, 101, 110, 116] } : ByteArray).toList) = false := by rw [hS]; exact str_neC h2
         have e3 : (S.toList == ({ data := #[98, 121, 116, 101, 115] } : ByteArray).toList) = false := by rw [hS]; exact str_neC h3
         have e4 : (S.toList == ({ data := #[116, 105, 109, 101, 115] } : ByteArray).toList) = false := by rw [hS]; exact str_neC h4
         have e5 : (S.toList == ({ data := #[109, 97, 110, 121] } : ByteArray).toList) = false := by rw [hS]; exact str_neC h5
         have e6 : (S.toList == ({ data := #[119, 105, 116, 104, 105, 110] } : ByteArray).toList) = false := by rw [hS]; exact str_neC h6
         have e7 : (S.toList == ({ data := #[115, 119, 105, 116, 99, 104] } : ByteArray).toList) = true := by rw [hS]; exact str_eqC h7
         have HZ := hid (show wordP x = true from by unfold wordP sWords; rw [h7]; decide)
         clear hS h0 h1 h2 h3 h4 h5 h6 h7
         go_enter Tryz.func11, Tryz.ntmps11
         generalize (ByteArray.mk #[118, 97, 114, 105, 110, 116]) = K0 at *; generalize (ByteArray.mk #[122, 105, 103, 122, 97, 103]) = K1 at *; generalize (ByteArray.mk #[108, 101, 110, 105, 101, 110, 116]) = K2 at *; generalize (ByteArray.mk #[98, 121, 116, 101, 115]) = K3 at *; generalize (ByteArray.mk #[116, 105, 109, 101, 115]) = K4 at *; generalize (ByteArray.mk #[109, 97, 110, 121]) = K5 at *; generalize (ByteArray.mk #[119, 105, 116, 104, 105, 110]) = K6 at *; generalize (ByteArray.mk #[115, 119, 105, 116, 99, 104]) = K7 at *; generalize (ByteArray.mk #[101, 108, 115, 101]) = K8 at *; generalize (ByteArray.mk #[111, 110, 101, 111, 102]) = K9 at *; generalize (ByteArray.mk #[99, 104, 97, 105, 110]) = K10 at *; generalize (ByteArray.mk #[108, 97, 115, 116]) = K11 at *; generalize (ByteArray.mk #[101, 109, 112, 116, 121]) = K12 at *; generalize (ByteArray.mk #[115, 105, 122, 101]) = K13 at *; generalize (ByteArray.mk #[99, 111, 117, 110, 116]) = K14 at *; generalize (ByteArray.mk #[99, 114, 99]) = K15 at *
         go_wp2_with fail
         go_ret
         rw [HR.out, HZ.out]
         exact ⟨rfl, rfl⟩
        ·skip
         by_cases h8 : x = s_else
         ·skip
          have e0 : (S.toList == ({ data := #[118, 97, 114, 105, 110, 116] } : ByteArray).toList) = false := by rw [hS]; exact str_neC h0
          have e1 : (S.toList == ({ data := #[122, 105, 103, 122, 97, 103] } : ByteArray).toList) = false := by rw [hS]; exact str_neC h1
          have e2 : (S.toList == ({ data := #[108, 101, 110, 105, 101, 110, 116] } : ByteArray).toList) = false := by rw [hS]; exact str_neC h2
          have e3 : (S.toList == ({ data := #[98, 121, 116, 101, 115] } : ByteArray).toList) = false := by rw [hS]; exact str_neC h3
          have e4 : (S.toList == ({ data := #[116, 105, 109, 101, 115] } : ByteArray).toList) = false := by rw [hS]; exact str_neC h4
          have e5 : (S.toList == ({ data := #[109, 97, 110, 121] } : ByteArray).toList) = false := by rw [hS]; exact str_neC h5
          have e6 : (S.toList == ({ data := #[119, 105, 116, 104, 105, 110] } : ByteArray).toList) = false := by rw [hS]; exact str_neC h6
          have e7 : (S.toList == ({ data := #[115, 119, 105, 116, 99, 104] } : ByteArray).toList) = false := by rw [hS]; exact str_neC h7
          have e8 : (S.toList == ({ data := #[101, 108, 115, 101] } : ByteArray).toList) = true := by rw [hS]; exact str_eqC h8
          have HZ := hid (show wordP x = true from by unfold wordP sWords; rw [h8]; decide)
          clear hS h0 h1 h2 h3 h4 h5 h6 h7 h8
          go_enter Tryz.func11, Tryz.ntmps11
          generalize (ByteArray.mk #[118, 97, 114, 105, 110, 116]) = K0 at *; generalize (ByteArray.mk #[122, 105, 103, 122, 97, 103]) = K1 at *; generalize (ByteArray.mk #[108, 101, 110, 105, 101, 110, 116]) = K2 at *; generalize (ByteArray.mk #[98, 121, 116, 101, 115]) = K3 at *; generalize (ByteArray.mk #[116, 105, 109, 101, 115]) = K4 at *; generalize (ByteArray.mk #[109, 97, 110, 121]) = K5 at *; generalize (ByteArray.mk #[119, 105, 116, 104, 105, 110]) = K6 at *; generalize (ByteArray.mk #[115, 119, 105, 116, 99, 104]) = K7 at *; generalize (ByteArray.mk #[101, 108, 115, 101]) = K8 at *; generalize (ByteArray.mk #[111, 110, 101, 111, 102]) = K9 at *; generalize (ByteArray.mk #[99, 104, 97, 105, 110]) = K10 at *; generalize (ByteArray.mk #[108, 97, 115, 116]) = K11 at *; generalize (ByteArray.mk #[101, 109, 112, 116, 121]) = K12 at *; generalize (ByteArray.mk #[115, 105, 122, 101]) = K13 at *; generalize (ByteArray.mk #[99, 111, 117, 110, 116]) = K14 at *; generalize (ByteArray.mk #[99, 114, 99]) = K15 at *
          go_wp2_with fail
          go_ret
          rw [HR.out, HZ.out]
          exact ⟨rfl, rfl⟩
         ·skip
          by_cases h9 : x = s_oneof
          ·skip
           have e0 : (S.toList == ({ data := #[118, 97, 114, 105, 110, 116] } : ByteArray).toList) = false := by rw [hS]; exact str_neC h0
           have e1 : (S.toList == ({ data := #[122, 105, 103, 122, 97, 103] } : ByteArray).toList) = false := by rw [hS]; exact str_neC h1
           have e2 : (S.toList == ({ data := #[108, 101, 110, 105, 101, 110, 116] } : ByteArray).toList) = false := by rw [hS]; exact str_neC h2
           have e3 : (S.toList == ({ data := #[98, 121, 116, 101, 115] } : ByteArray).toList) = false := by rw [hS]; exact str_neC h3
           have e4 : (S.toList == ({ data := #[116, 105, 109, 101, 115] } : ByteArray).toList) = false := by rw [hS]; exact str_neC h4
           have e5 : (S.toList == ({ data := #[109, 97, 110, 121] } : ByteArray).toList) = false := by rw [hS]; exact str_neC h5
           have e6 : (S.toList == ({ data := #[119, 105, 116, 104, 105, 110] } : ByteArray).toList) = false := by rw [hS]; exact str_neC h6
           have e7 : (S.toList == ({ data := #[115, 119, 105, 116, 99, 104] } : ByteArray).toList) = false := by rw [hS]; exact str_neC h7
           have e8 : (S.toList == ({ data := #[101, 108, 115, 101] } : ByteArray).toList) = false := by rw [hS]; exact str_neC h8
           have e9 : (S.toList == ({ data := #[111, 110, 101, 111, 102] } : ByteArray).toList) = true := by rw [hS]; exact str_eqC h9
           have HZ := hid (show wordP x = true from by unfold wordP sWords; rw [h9]; decide)
           clear hS h0 h1 h2 h3 h4 h5 h6 h7 h8 h9
           go_enter Tryz.func11, Tryz.ntmps11
           generalize (ByteArray.mk #[118, 97, 114, 105, 110, 116]) = K0 at *; generalize (ByteArray.mk #[122, 105, 103, 122, 97, 103]) = K1 at *; generalize (ByteArray.mk #[108, 101, 110, 105, 101, 110, 116]) = K2 at *; generalize (ByteArray.mk #[98, 121, 116, 101, 115]) = K3 at *; generalize (ByteArray.mk #[116, 105, 109, 101, 115]) = K4 at *; generalize (ByteArray.mk #[109, 97, 110, 121]) = K5 at *; generalize (ByteArray.mk #[119, 105, 116, 104, 105, 110]) = K6 at *; generalize (ByteArray.mk #[115, 119, 105, 116, 99, 104]) = K7 at *; generalize (ByteArray.mk #[101, 108, 115, 101]) = K8 at *; generalize (ByteArray.mk #[111, 110, 101, 111, 102]) = K9 at *; generalize (ByteArray.mk #[99, 104, 97, 105, 110]) = K10 at *; generalize (ByteArray.mk #[108, 97, 115, 116]) = K11 at *; generalize (ByteArray.mk #[101, 109, 112, 116, 121]) = K12 at *; generalize (ByteArray.mk #[115, 105, 122, 101]) = K13 at *; generalize (ByteArray.mk #[99, 111, 117, 110, 116]) = K14 at *; generalize (ByteArray.mk #[99, 114, 99]) = K15 at *
           go_wp2_with fail
           go_ret
           rw [HR.out, HZ.out]
           exact ⟨rfl, rfl⟩
          ·skip
           by_cases h10 : x = s_chain
           ·skip
            have e0 : (S.toList == ({ data := #[118, 97, 114, 105, 110, 116] } : ByteArray).toList) = false := by rw [hS]; exact str_neC h0
            have e1 : (S.toList == ({ data := #[122, 105, 103, 122, 97, 103] } : ByteArray).toList) = false := by rw [hS]; exact str_neC h1
            have e2 : (S.toList == ({ data := #[108, 101, 110, 105, 101, 110, 116] } : ByteArray).toList) = false := by rw [hS]; exact str_neC h2
            have e3 : (S.toList == ({ data := #[98, 121, 116, 101, 115] } : ByteArray).toList) = false := by rw [hS]; exact str_neC h3
            have e4 : (S.toList == ({ data := #[116, 105, 109, 101, 115] } : ByteArray).toList) = false := by rw [hS]; exact str_neC h4
            have e5 : (S.toList == ({ data := #[109, 97, 110, 121] } : ByteArray).toList) = false := by rw [hS]; exact str_neC h5
            have e6 : (S.toList == ({ data := #[119, 105, 116, 104, 105, 110] } : ByteArray).toList) = false := by rw [hS]; exact str_neC h6
            have e7 : (S.toList == ({ data := #[115, 119, 105, 116, 99, 104] } : ByteArray).toList) = false := by rw [hS]; exact str_neC h7
            have e8 : (S.toList == ({ data := #[101, 108, 115, 101] } : ByteArray).toList) = false := by rw [hS]; exact str_neC h8
            have e9 : (S.toList == ({ data := #[111, 110, 101, 111, 102] } : ByteArray).toList) = false := by rw [hS]; exact str_neC h9
            have e10 : (S.toList == ({ data := #[99, 104, 97, 105, 110] } : ByteArray).toList) = true := by rw [hS]; exact str_eqC h10
            have HZ := hid (show wordP x = true from by unfold wordP sWords; rw [h10]; decide)
            clear hS h0 h1 h2 h3 h4 h5 h6 h7 h8 h9 h10
            go_enter Tryz.func11, Tryz.ntmps11
            generalize (ByteArray.mk #[118, 97, 114, 105, 110, 116]) = K0 at *; generalize (ByteArray.mk #[122, 105, 103, 122, 97, 103]) = K1 at *; generalize (ByteArray.mk #[108, 101, 110, 105, 101, 110, 116]) = K2 at *; generalize (ByteArray.mk #[98, 121, 116, 101, 115]) = K3 at *; generalize (ByteArray.mk #[116, 105, 109, 101, 115]) = K4 at *; generalize (ByteArray.mk #[109, 97, 110, 121]) = K5 at *; generalize (ByteArray.mk #[119, 105, 116, 104, 105, 110]) = K6 at *; generalize (ByteArray.mk #[115, 119, 105, 116, 99, 104]) = K7 at *; generalize (ByteArray.mk #[101, 108, 115, 101]) = K8 at *; generalize (ByteArray.mk #[111, 110, 101, 111, 102]) = K9 at *; generalize (ByteArray.mk #[99, 104, 97, 105, 110]) = K10 at *; generalize (ByteArray.mk #[108, 97, 115, 116]) = K11 at *; generalize (ByteArray.mk #[101, 109, 112, 116, 121]) = K12 at *; generalize (ByteArray.mk #[115, 105, 122, 101]) = K13 at *; generalize (ByteArray.mk #[99, 111, 117, 110, 116]) = K14 at *; generalize (ByteArray.mk #[99, 114, 99]) = K15 at *
            go_wp2_with fail
            go_ret
            rw [HR.out, HZ.out]
            exact ⟨rfl, rfl⟩
           ·skip
            by_cases h11 : x = s_last
            ·skip
             have e0 : (S.toList == ({ data := #[118, 97, 114, 105, 110, 116] } : ByteArray).toList) = false := by rw [hS]; exact str_neC h0
             have e1 : (S.toList == ({ data := #[122, 105, 103, 122, 97, 103] } : ByteArray).toList) = false := by rw [hS]; exact str_neC h1
             have e2 : (S.toList == ({ data := #[108, 101, 110, 105, 101, 110, 116] } : ByteArray).toList) = false := by rw [hS]; exact str_neC h2
             have e3 : (S.toList == ({ data := #[98, 121, 116, 101, 115] } : ByteArray).toList) = false := by rw [hS]; exact str_neC h3
             have e4 : (S.toList == ({ data := #[116, 105, 109, 101, 115] } : ByteArray).toList) = false := by rw [hS]; exact str_neC h4
             have e5 : (S.toList == ({ data := #[109, 97, 110, 121] } : ByteArray).toList) = false := by rw [hS]; exact str_neC h5
             have e6 : (S.toList == ({ data := #[119, 105, 116, 104, 105, 110] } : ByteArray).toList) = false := by rw [hS]; exact str_neC h6
             have e7 : (S.toList == ({ data := #[115, 119, 105, 116, 99, 104] } : ByteArray).toList) = false := by rw [hS]; exact str_neC h7
             have e8 : (S.toList == ({ data := #[101, 108, 115, 101] } : ByteArray).toList) = false := by rw [hS]; exact str_neC h8
             have e9 : (S.toList == ({ data := #[111, 110, 101, 111, 102] } : ByteArray).toList) = false := by rw [hS]; exact str_neC h9
             have e10 : (S.toList == ({ data := #[99, 104, 97, 105, 110] } : ByteArray).toList) = false := by rw [hS]; exact str_neC h10
             have e11 : (S.toList == ({ data := #[108, 97, 115, 116] } : ByteArray).toList) = true := by rw [hS]; exact str_eqC h11
             have HZ := hid (show wordP x = true from by unfold wordP sWords; rw [h11]; decide)
             clear hS h0 h1 h2 h3 h4 h5 h6 h7 h8 h9 h10 h11
             go_enter Tryz.func11, Tryz.ntmps11
             generalize (ByteArray.mk #[118, 97, 114, 105, 110, 116]) = K0 at *; generalize (ByteArray.mk #[122, 105, 103, 122, 97, 103]) = K1 at *; generalize (ByteArray.mk #[108, 101, 110, 105, 101, 110, 116]) = K2 at *; generalize (ByteArray.mk #[98, 121, 116, 101, 115]) = K3 at *; generalize (ByteArray.mk #[116, 105, 109, 101, 115]) = K4 at *; generalize (ByteArray.mk #[109, 97, 110, 121]) = K5 at *; generalize (ByteArray.mk #[119, 105, 116, 104, 105, 110]) = K6 at *; generalize (ByteArray.mk #[115, 119, 105, 116, 99, 104]) = K7 at *; generalize (ByteArray.mk #[101, 108, 115, 101]) = K8 at *; generalize (ByteArray.mk #[111, 110, 101, 111, 102]) = K9 at *; generalize (ByteArray.mk #[99, 104, 97, 105, 110]) = K10 at *; generalize (ByteArray.mk #[108, 97, 115, 116]) = K11 at *; generalize (ByteArray.mk #[101, 109, 112, 116, 121]) = K12 at *; generalize (ByteArray.mk #[115, 105, 122, 101]) = K13 at *; generalize (ByteArray.mk #[99, 111, 117, 110, 116]) = K14 at *; generalize (ByteArray.mk #[99, 114, 99]) = K15 at *
             go_wp2_with fail
             go_ret
             rw [HR.out, HZ.out]
             exact ⟨rfl, rfl⟩
            ·skip
             by_cases h12 : x = s_empty
             ·skip
              have e0 : (S.toList == ({ data := #[118, 97, 114, 105, 110, 116] } : ByteArray).toList) = false := by rw [hS]; exact str_neC h0
              have e1 : (S.toList == ({ data := #[122, 105, 103, 122, 97, 103] } : ByteArray).toList) = false := by rw [hS]; exact str_neC h1
              have e2 : (S.toList == ({ data := #[108, 101, 110, 105, 101, 110, 116] } : ByteArray).toList) = false := by rw [hS]; exact str_neC h2
              have e3 : (S.toList == ({ data := #[98, 121, 116, 101, 115] } : ByteArray).toList) = false := by rw [hS]; exact str_neC h3
              have e4 : (S.toList == ({ data := #[116, 105, 109, 101, 115] } : ByteArray).toList) = false := by rw [hS]; exact str_neC h4
              have e5 : (S.toList == ({ data := #[109, 97, 110, 121] } : ByteArray).toList) = false := by rw [hS]; exact str_neC h5
              have e6 : (S.toList == ({ data := #[119, 105, 116, 104, 105, 110] } : ByteArray).toList) = false := by rw [hS]; exact str_neC h6
              have e7 : (S.toList == ({ data := #[115, 119, 105, 116, 99, 104] } : ByteArray).toList) = false := by rw [hS]; exact str_neC h7
              have e8 : (S.toList == ({ data := #[101, 108, 115, 101] } : ByteArray).toList) = false := by rw [hS]; exact str_neC h8
              have e9 : (S.toList == ({ data := #[111, 110, 101, 111, 102] } : ByteArray).toList) = false := by rw [hS]; exact str_neC h9
              have e10 : (S.toList == ({ data := #[99, 104, 97, 105, 110] } : ByteArray).toList) = false := by rw [hS]; exact str_neC h10
              have e11 : (S.toList == ({ data := #[108, 97, 115, 116] } : ByteArray).toList) = false := by rw [hS]; exact str_neC h11
              have e12 : (S.toList == ({ data := #[101, 109, 112, 116, 121] } : ByteArray).toList) = true := by rw [hS]; exact str_eqC h12
              have HZ := hid (show wordP x = true from by unfold wordP sWords; rw [h12]; decide)
              clear hS h0 h1 h2 h3 h4 h5 h6 h7 h8 h9 h10 h11 h12
              go_enter Tryz.func11, Tryz.ntmps11
              generalize (ByteArray.mk #[118, 97, 114, 105, 110, 116]) = K0 at *; generalize (ByteArray.mk #[122, 105, 103, 122, 97, 103]) = K1 at *; generalize (ByteArray.mk #[108, 101, 110, 105, 101, 110, 116]) = K2 at *; generalize (ByteArray.mk #[98, 121, 116, 101, 115]) = K3 at *; generalize (ByteArray.mk #[116, 105, 109, 101, 115]) = K4 at *; generalize (ByteArray.mk #[109, 97, 110, 121]) = K5 at *; generalize (ByteArray.mk #[119, 105, 116, 104, 105, 110]) = K6 at *; generalize (ByteArray.mk #[115, 119, 105, 116, 99, 104]) = K7 at *; generalize (ByteArray.mk #[101, 108, 115, 101]) = K8 at *; generalize (ByteArray.mk #[111, 110, 101, 111, 102]) = K9 at *; generalize (ByteArray.mk #[99, 104, 97, 105, 110]) = K10 at *; generalize (ByteArray.mk #[108, 97, 115, 116]) = K11 at *; generalize (ByteArray.mk #[101, 109, 112, 116, 121]) = K12 at *; generalize (ByteArray.mk #[115, 105, 122, 101]) = K13 at *; generalize (ByteArray.mk #[99, 111, 117, 110, 116]) = K14 at *; generalize (ByteArray.mk #[99, 114, 99]) = K15 at *
              go_wp2_with fail
              go_ret
              rw [HR.out, HZ.out]
              exact ⟨rfl, rfl⟩
             ·skip
              by_cases h13 : x = s_size
              ·skip
               have e0 : (S.toList == ({ data := #[118, 97, 114, 105, 110, 116] } : ByteArray).toList) = false := by rw [hS]; exact str_neC h0
               have e1 : (S.toList == ({ data := #[122, 105, 103, 122, 97, 103] } : ByteArray).toList) = false := by rw [hS]; exact str_neC h1
               have e2 : (S.toList == ({ data := #[108, 101, 110, 105, 101, 110, 116] } : ByteArray).toList) = false := by rw [hS]; exact str_neC h2
               have e3 : (S.toList == ({ data := #[98, 121, 116, 101, 115] } : ByteArray).toList) = false := by rw [hS]; exact str_neC h3
               have e4 : (S.toList == ({ data := #[116, 105, 109, 101, 115] } : ByteArray).toList) = false := by rw [hS]; exact str_neC h4
               have e5 : (S.toList == ({ data := #[109, 97, 110, 121] } : ByteArray).toList) = false := by rw [hS]; exact str_neC h5
               have e6 : (S.toList == ({ data := #[119, 105, 116, 104, 105, 110] } : ByteArray).toList) = false := by rw [hS]; exact str_neC h6
               have e7 : (S.toList == ({ data := #[115, 119, 105, 116, 99, 104] } : ByteArray).toList) = false := by rw [hS]; exact str_neC h7
               have e8 : (S.toList == ({ data := #[101, 108, 115, 101] } : ByteArray).toList) = false := by rw [hS]; exact str_neC h8
               have e9 : (S.toList == ({ data := #[111, 110, 101, 111, 102] } : ByteArray).toList) = false := by rw [hS]; exact str_neC h9
               have e10 : (S.toList == ({ data := #[99, 104, 97, 105, 110] } : ByteArray).toList) = false := by rw [hS]; exact str_neC h10
               have e11 : (S.toList == ({ data := #[108, 97, 115, 116] } : ByteArray).toList) = false := by rw [hS]; exact str_neC h11
               have e12 : (S.toList == ({ data := #[101, 109, 112, 116, 121] } : ByteArray).toList) = false := by rw [hS]; exact str_neC h12
               have e13 : (S.toList == ({ data := #[115, 105, 122, 101] } : ByteArray).toList) = true := by rw [hS]; exact str_eqC h13
               have HZ := hid (show wordP x = true from by unfold wordP sWords; rw [h13]; decide)
               clear hS h0 h1 h2 h3 h4 h5 h6 h7 h8 h9 h10 h11 h12 h13
               go_enter Tryz.func11, Tryz.ntmps11
               generalize (ByteArray.mk #[118, 97, 114, 105, 110, 116]) = K0 at *; generalize (ByteArray.mk #[122, 105, 103, 122, 97, 103]) = K1 at *; generalize (ByteArray.mk #[108, 101, 110, 105, 101, 110, 116]) = K2 at *; generalize (ByteArray.mk #[98, 121, 116, 101, 115]) = K3 at *; generalize (ByteArray.mk #[116, 105, 109, 101, 115]) = K4 at *; generalize (ByteArray.mk #[109, 97, 110, 121]) = K5 at *; generalize (ByteArray.mk #[119, 105, 116, 104, 105, 110]) = K6 at *; generalize (ByteArray.mk #[115, 119, 105, 116, 99, 104]) = K7 at *; generalize (ByteArray.mk #[101, 108, 115, 101]) = K8 at *; generalize (ByteArray.mk #[111, 110, 101, 111, 102]) = K9 at *; generalize (ByteArray.mk #[99, 104, 97, 105, 110]) = K10 at *; generalize (ByteArray.mk #[108, 97, 115, 116]) = K11 at *; generalize (ByteArray.mk #[101, 109, 112, 116, 121]) = K12 at *; generalize (ByteArray.mk #[115, 105, 122, 101]) = K13 at *; generalize (ByteArray.mk #[99, 111, 117, 110, 116]) = K14 at *; generalize (ByteArray.mk #[99, 114, 99]) = K15 at *
               go_wp2_with fail
               go_ret
               rw [HR.out, HZ.out]
               exact ⟨rfl, rfl⟩
              ·skip
               by_cases h14 : x = s_count
               ·skip
                have e0 : (S.toList == ({ data := #[118, 97, 114, 105, 110, 116] } : ByteArray).toList) = false := by rw [hS]; exact str_neC h0
                have e1 : (S.toList == ({ data := #[122, 105, 103, 122, 97, 103] } : ByteArray).toList) = false := by rw [hS]; exact str_neC h1
                have e2 : (S.toList == ({ data := #[108, 101, 110, 105, 101, 110, 116] } : ByteArray).toList) = false := by rw [hS]; exact str_neC h2
                have e3 : (S.toList == ({ data := #[98, 121, 116, 101, 115] } : ByteArray).toList) = false := by rw [hS]; exact str_neC h3
                have e4 : (S.toList == ({ data := #[116, 105, 109, 101, 115] } : ByteArray).toList) = false := by rw [hS]; exact str_neC h4
                have e5 : (S.toList == ({ data := #[109, 97, 110, 121] } : ByteArray).toList) = false := by rw [hS]; exact str_neC h5
                have e6 : (S.toList == ({ data := #[119, 105, 116, 104, 105, 110] } : ByteArray).toList) = false := by rw [hS]; exact str_neC h6
                have e7 : (S.toList == ({ data := #[115, 119, 105, 116, 99, 104] } : ByteArray).toList) = false := by rw [hS]; exact str_neC h7
                have e8 : (S.toList == ({ data := #[101, 108, 115, 101] } : ByteArray).toList) = false := by rw [hS]; exact str_neC h8
                have e9 : (S.toList == ({ data := #[111, 110, 101, 111, 102] } : ByteArray).toList) = false := by rw [hS]; exact str_neC h9
                have e10 : (S.toList == ({ data := #[99, 104, 97, 105, 110] } : ByteArray).toList) = false := by rw [hS]; exact str_neC h10
                have e11 : (S.toList == ({ data := #[108, 97, 115, 116] } : ByteArray).toList) = false := by rw [hS]; exact str_neC h11
                have e12 : (S.toList == ({ data := #[101, 109, 112, 116, 121] } : ByteArray).toList) = false := by rw [hS]; exact str_neC h12
                have e13 : (S.toList == ({ data := #[115, 105, 122, 101] } : ByteArray).toList) = false := by rw [hS]; exact str_neC h13
                have e14 : (S.toList == ({ data := #[99, 111, 117, 110, 116] } : ByteArray).toList) = true := by rw [hS]; exact str_eqC h14
                have HZ := hid (show wordP x = true from by unfold wordP sWords; rw [h14]; decide)
                clear hS h0 h1 h2 h3 h4 h5 h6 h7 h8 h9 h10 h11 h12 h13 h14
                go_enter Tryz.func11, Tryz.ntmps11
                generalize (ByteArray.mk #[118, 97, 114, 105, 110, 116]) = K0 at *; generalize (ByteArray.mk #[122, 105, 103, 122, 97, 103]) = K1 at *; generalize (ByteArray.mk #[108, 101, 110, 105, 101, 110, 116]) = K2 at *; generalize (ByteArray.mk #[98, 121, 116, 101, 115]) = K3 at *; generalize (ByteArray.mk #[116, 105, 109, 101, 115]) = K4 at *; generalize (ByteArray.mk #[109, 97, 110, 121]) = K5 at *; generalize (ByteArray.mk #[119, 105, 116, 104, 105, 110]) = K6 at *; generalize (ByteArray.mk #[115, 119, 105, 116, 99, 104]) = K7 at *; generalize (ByteArray.mk #[101, 108, 115, 101]) = K8 at *; generalize (ByteArray.mk #[111, 110, 101, 111, 102]) = K9 at *; generalize (ByteArray.mk #[99, 104, 97, 105, 110]) = K10 at *; generalize (ByteArray.mk #[108, 97, 115, 116]) = K11 at *; generalize (ByteArray.mk #[101, 109, 112, 116, 121]) = K12 at *; generalize (ByteArray.mk #[115, 105, 122, 101]) = K13 at *; generalize (ByteArray.mk #[99, 111, 117, 110, 116]) = K14 at *; generalize (ByteArray.mk #[99, 114, 99]) = K15 at *
                go_wp2_with fail
                go_ret
                rw [HR.out, HZ.out]
                exact ⟨rfl, rfl⟩
               ·skip
                by_cases h15 : x = s_crc
                ·skip
                 have e0 : (S.toList == ({ data := #[118, 97, 114, 105, 110, 116] } : ByteArray).toList) = false := by rw [hS]; exact str_neC h0
                 have e1 : (S.toList == ({ data := #[122, 105, 103, 122, 97, 103] } : ByteArray).toList) = false := by rw [hS]; exact str_neC h1
                 have e2 : (S.toList == ({ data := #[108, 101, 110, 105, 101, 110, 116] } : ByteArray).toList) = false := by rw [hS]; exact str_neC h2
                 have e3 : (S.toList == ({ data := #[98, 121, 116, 101, 115] } : ByteArray).toList) = false := by rw [hS]; exact str_neC h3
                 have e4 : (S.toList == ({ data := #[116, 105, 109, 101, 115] } : ByteArray).toList) = false := by rw [hS]; exact str_neC h4
                 have e5 : (S.toList == ({ data := #[109, 97, 110, 121] } : ByteArray).toList) = false := by rw [hS]; exact str_neC h5
                 have e6 : (S.toList == ({ data := #[119, 105, 116, 104, 105, 110] } : ByteArray).toList) = false := by rw [hS]; exact str_neC h6
                 have e7 : (S.toList == ({ data := #[115, 119, 105, 116, 99, 104] } : ByteArray).toList) = false := by rw [hS]; exact str_neC h7
                 have e8 : (S.toList == ({ data := #[101, 108, 115, 101] } : ByteArray).toList) = false := by rw [hS]; exact str_neC h8
                 have e9 : (S.toList == ({ data := #[111, 110, 101, 111, 102] } : ByteArray).toList) = false := by rw [hS]; exact str_neC h9
                 have e10 : (S.toList == ({ data := #[99, 104, 97, 105, 110] } : ByteArray).toList) = false := by rw [hS]; exact str_neC h10
                 have e11 : (S.toList == ({ data := #[108, 97, 115, 116] } : ByteArray).toList) = false := by rw [hS]; exact str_neC h11
                 have e12 : (S.toList == ({ data := #[101, 109, 112, 116, 121] } : ByteArray).toList) = false := by rw [hS]; exact str_neC h12
                 have e13 : (S.toList == ({ data := #[115, 105, 122, 101] } : ByteArray).toList) = false := by rw [hS]; exact str_neC h13
                 have e14 : (S.toList == ({ data := #[99, 111, 117, 110, 116] } : ByteArray).toList) = false := by rw [hS]; exact str_neC h14
                 have e15 : (S.toList == ({ data := #[99, 114, 99] } : ByteArray).toList) = true := by rw [hS]; exact str_eqC h15
                 have HZ := hid (show wordP x = true from by unfold wordP sWords; rw [h15]; decide)
                 clear hS h0 h1 h2 h3 h4 h5 h6 h7 h8 h9 h10 h11 h12 h13 h14 h15
                 go_enter Tryz.func11, Tryz.ntmps11
                 generalize (ByteArray.mk #[118, 97, 114, 105, 110, 116]) = K0 at *; generalize (ByteArray.mk #[122, 105, 103, 122, 97, 103]) = K1 at *; generalize (ByteArray.mk #[108, 101, 110, 105, 101, 110, 116]) = K2 at *; generalize (ByteArray.mk #[98, 121, 116, 101, 115]) = K3 at *; generalize (ByteArray.mk #[116, 105, 109, 101, 115]) = K4 at *; generalize (ByteArray.mk #[109, 97, 110, 121]) = K5 at *; generalize (ByteArray.mk #[119, 105, 116, 104, 105, 110]) = K6 at *; generalize (ByteArray.mk #[115, 119, 105, 116, 99, 104]) = K7 at *; generalize (ByteArray.mk #[101, 108, 115, 101]) = K8 at *; generalize (ByteArray.mk #[111, 110, 101, 111, 102]) = K9 at *; generalize (ByteArray.mk #[99, 104, 97, 105, 110]) = K10 at *; generalize (ByteArray.mk #[108, 97, 115, 116]) = K11 at *; generalize (ByteArray.mk #[101, 109, 112, 116, 121]) = K12 at *; generalize (ByteArray.mk #[115, 105, 122, 101]) = K13 at *; generalize (ByteArray.mk #[99, 111, 117, 110, 116]) = K14 at *; generalize (ByteArray.mk #[99, 114, 99]) = K15 at *
                 go_wp2_with fail
                 go_ret
                 rw [HR.out, HZ.out]
                 exact ⟨rfl, rfl⟩
                ·skip
                 have e0 : (S.toList == ({ data := #[118, 97, 114, 105, 110, 116] } : ByteArray).toList) = false := by rw [hS]; exact str_neC h0
                 have e1 : (S.toList == ({ data := #[122, 105, 103, 122, 97, 103] } : ByteArray).toList) = false := by rw [hS]; exact str_neC h1
                 have e2 : (S.toList == ({ data := #[108, 101, 110, 105, 101, 110, 116] } : ByteArray).toList) = false := by rw [hS]; exact str_neC h2
                 have e3 : (S.toList == ({ data := #[98, 121, 116, 101, 115] } : ByteArray).toList) = false := by rw [hS]; exact str_neC h3
                 have e4 : (S.toList == ({ data := #[116, 105, 109, 101, 115] } : ByteArray).toList) = false := by rw [hS]; exact str_neC h4
                 have e5 : (S.toList == ({ data := #[109, 97, 110, 121] } : ByteArray).toList) = false := by rw [hS]; exact str_neC h5
                 have e6 : (S.toList == ({ data := #[119, 105, 116, 104, 105, 110] } : ByteArray).toList) = false := by rw [hS]; exact str_neC h6
                 have e7 : (S.toList == ({ data := #[115, 119, 105, 116, 99, 104] } : ByteArray).toList) = false := by rw [hS]; exact str_neC h7
                 have e8 : (S.toList == ({ data := #[101, 108, 115, 101] } : ByteArray).toList) = false := by rw [hS]; exact str_neC h8
                 have e9 : (S.toList == ({ data := #[111, 110, 101, 111, 102] } : ByteArray).toList) = false := by rw [hS]; exact str_neC h9
                 have e10 : (S.toList == ({ data := #[99, 104, 97, 105, 110] } : ByteArray).toList) = false := by rw [hS]; exact str_neC h10
                 have e11 : (S.toList == ({ data := #[108, 97, 115, 116] } : ByteArray).toList) = false := by rw [hS]; exact str_neC h11
                 have e12 : (S.toList == ({ data := #[101, 109, 112, 116, 121] } : ByteArray).toList) = false := by rw [hS]; exact str_neC h12
                 have e13 : (S.toList == ({ data := #[115, 105, 122, 101] } : ByteArray).toList) = false := by rw [hS]; exact str_neC h13
                 have e14 : (S.toList == ({ data := #[99, 111, 117, 110, 116] } : ByteArray).toList) = false := by rw [hS]; exact str_neC h14
                 have e15 : (S.toList == ({ data := #[99, 114, 99] } : ByteArray).toList) = false := by rw [hS]; exact str_neC h15
                 have HZ := hid (show wordP x = (fixP x).isSome from by unfold wordP sWords; simp [h0, h1, h2, h3, h4, h5, h6, h7, h8, h9, h10, h11, h12, h13, h14, h15])
                 clear hS h0 h1 h2 h3 h4 h5 h6 h7 h8 h9 h10 h11 h12 h13 h14 h15
                 go_enter Tryz.func11, Tryz.ntmps11
                 generalize (ByteArray.mk #[118, 97, 114, 105, 110, 116]) = K0 at *; generalize (ByteArray.mk #[122, 105, 103, 122, 97, 103]) = K1 at *; generalize (ByteArray.mk #[108, 101, 110, 105, 101, 110, 116]) = K2 at *; generalize (ByteArray.mk #[98, 121, 116, 101, 115]) = K3 at *; generalize (ByteArray.mk #[116, 105, 109, 101, 115]) = K4 at *; generalize (ByteArray.mk #[109, 97, 110, 121]) = K5 at *; generalize (ByteArray.mk #[119, 105, 116, 104, 105, 110]) = K6 at *; generalize (ByteArray.mk #[115, 119, 105, 116, 99, 104]) = K7 at *; generalize (ByteArray.mk #[101, 108, 115, 101]) = K8 at *; generalize (ByteArray.mk #[111, 110, 101, 111, 102]) = K9 at *; generalize (ByteArray.mk #[99, 104, 97, 105, 110]) = K10 at *; generalize (ByteArray.mk #[108, 97, 115, 116]) = K11 at *; generalize (ByteArray.mk #[101, 109, 112, 116, 121]) = K12 at *; generalize (ByteArray.mk #[115, 105, 122, 101]) = K13 at *; generalize (ByteArray.mk #[99, 111, 117, 110, 116]) = K14 at *; generalize (ByteArray.mk #[99, 114, 99]) = K15 at *
                 go_wp2_with (go_at_call 19; (with_reducible refine (HFx.out _).mono ?_); rintro e w1 ⟨rfl, rfl⟩)
                 go_ret
                 rw [HR.out, HZ.out]
                 exact ⟨rfl, rfl⟩
set_option maxRecDepth 100000 in
set_option maxHeartbeats 4000000 in
theorem begins_any (x : List UInt8) (hx : x.length ≤ 1000000) (w : World) : Calls Tryz.prog 103 #[.string ⟨x.toArray⟩] w fun e w' => e = .returned (.bool (begP x)) ∧ w = w' := by
 obtain ⟨S, hS⟩ : ∃ S, S = (⟨x.toArray⟩ : ByteArray) := ⟨_, rfl⟩
 obtain ⟨R, hR⟩ : ∃ R, R = begP x := ⟨_, rfl⟩
 have HR := hid hR
 rw [← hS, ← hR]
 clear hR
 by_cases h0 : x = s_lenient
 ·skip
  have e0 : (S.toList == ({ data := #[108, 101, 110, 105, 101, 110, 116] } : ByteArray).toList) = true := by rw [hS]; exact str_eqC h0
  have HZ := hid (show begP x = false from by unfold begP sNot; rw [h0]; decide)
  clear hS h0
  go_enter Tryz.func103, Tryz.ntmps103
  generalize (ByteArray.mk #[108, 101, 110, 105, 101, 110, 116]) = K0 at *; generalize (ByteArray.mk #[101, 108, 115, 101]) = K1 at *; generalize (ByteArray.mk #[108, 97, 115, 116]) = K2 at *; generalize (ByteArray.mk #[115, 105, 122, 101]) = K3 at *; generalize (ByteArray.mk #[99, 111, 117, 110, 116]) = K4 at *; generalize (ByteArray.mk #[99, 114, 99]) = K5 at *
  go_wp2_with fail
  go_ret
  rw [HR.out, HZ.out]
  exact ⟨rfl, rfl⟩
 ·skip
  by_cases h1 : x = s_else
  ·skip
   have e0 : (S.toList == ({ data := #[108, 101, 110, 105, 101, 110, 116] } : ByteArray).toList) = false := by rw [hS]; exact str_neC h0
   have e1 : (S.toList == ({ data := #[101, 108, 115, 101] } : ByteArray).toList) = true := by rw [hS]; exact str_eqC h1
   have HZ := hid (show begP x = false from by unfold begP sNot; rw [h1]; decide)
   clear hS h0 h1
   go_enter Tryz.func103, Tryz.ntmps103
   generalize (ByteArray.mk #[108, 101, 110, 105, 101, 110, 116]) = K0 at *; generalize (ByteArray.mk #[101, 108, 115, 101]) = K1 at *; generalize (ByteArray.mk #[108, 97, 115, 116]) = K2 at *; generalize (ByteArray.mk #[115, 105, 122, 101]) = K3 at *; generalize (ByteArray.mk #[99, 111, 117, 110, 116]) = K4 at *; generalize (ByteArray.mk #[99, 114, 99]) = K5 at *
   go_wp2_with fail
   go_ret
   rw [HR.out, HZ.out]
   exact ⟨rfl, rfl⟩
  ·skip
   by_cases h2 : x = s_last
   ·skip
    have e0 : (S.toList == ({ data := #[108, 101, 110, 105, 101, 110, 116] } : ByteArray).toList) = false := by rw [hS]; exact str_neC h0
    have e1 : (S.toList == ({ data := #[101, 108, 115, 101] } : ByteArray).toList) = false := by rw [hS]; exact str_neC h1
    have e2 : (S.toList == ({ data := #[108, 97, 115, 116] } : ByteArray).toList) = true := by rw [hS]; exact str_eqC h2
    have HZ := hid (show begP x = false from by unfold begP sNot; rw [h2]; decide)
    clear hS h0 h1 h2
    go_enter Tryz.func103, Tryz.ntmps103
    generalize (ByteArray.mk #[108, 101, 110, 105, 101, 110, 116]) = K0 at *; generalize (ByteArray.mk #[101, 108, 115, 101]) = K1 at *; generalize (ByteArray.mk #[108, 97, 115, 116]) = K2 at *; generalize (ByteArray.mk #[115, 105, 122, 101]) = K3 at *; generalize (ByteArray.mk #[99, 111, 117, 110, 116]) = K4 at *; generalize (ByteArray.mk #[99, 114, 99]) = K5 at *
    go_wp2_with fail
    go_ret
    rw [HR.out, HZ.out]
    exact ⟨rfl, rfl⟩
   ·skip
    by_cases h3 : x = s_size
    ·skip
     have e0 : (S.toList == ({ data := #[108, 101, 110, 105, 101, 110, 116] } : ByteArray).toList) = false := by rw [hS]; exact str_neC h0
     have e1 : (S.toList == ({ data := #[101, 108, 115, 101] } : ByteArray).toList) = false := by rw [hS]; exact str_neC h1
     have e2 : (S.toList == ({ data := #[108, 97, 115, 116] } : ByteArray).toList) = false := by rw [hS]; exact str_neC h2
     have e3 : (S.toList == ({ data := #[115, 105, 122, 101] } : ByteArray).toList) = true := by rw [hS]; exact str_eqC h3
     have HZ := hid (show begP x = false from by unfold begP sNot; rw [h3]; decide)
     clear hS h0 h1 h2 h3
     go_enter Tryz.func103, Tryz.ntmps103
     generalize (ByteArray.mk #[108, 101, 110, 105, 101, 110, 116]) = K0 at *; generalize (ByteArray.mk #[101, 108, 115, 101]) = K1 at *; generalize (ByteArray.mk #[108, 97, 115, 116]) = K2 at *; generalize (ByteArray.mk #[115, 105, 122, 101]) = K3 at *; generalize (ByteArray.mk #[99, 111, 117, 110, 116]) = K4 at *; generalize (ByteArray.mk #[99, 114, 99]) = K5 at *
     go_wp2_with fail
     go_ret
     rw [HR.out, HZ.out]
     exact ⟨rfl, rfl⟩
    ·skip
     by_cases h4 : x = s_count
     ·skip
      have e0 : (S.toList == ({ data := #[108, 101, 110, 105, 101, 110, 116] } : ByteArray).toList) = false := by rw [hS]; exact str_neC h0
      have e1 : (S.toList == ({ data := #[101, 108, 115, 101] } : ByteArray).toList) = false := by rw [hS]; exact str_neC h1
      have e2 : (S.toList == ({ data := #[108, 97, 115, 116] } : ByteArray).toList) = false := by rw [hS]; exact str_neC h2
      have e3 : (S.toList == ({ data := #[115, 105, 122, 101] } : ByteArray).toList) = false := by rw [hS]; exact str_neC h3
      have e4 : (S.toList == ({ data := #[99, 111, 117, 110, 116] } : ByteArray).toList) = true := by rw [hS]; exact str_eqC h4
      have HZ := hid (show begP x = false from by unfold begP sNot; rw [h4]; decide)
      clear hS h0 h1 h2 h3 h4
      go_enter Tryz.func103, Tryz.ntmps103
      generalize (ByteArray.mk #[108, 101, 110, 105, 101, 110, 116]) = K0 at *; generalize (ByteArray.mk #[101, 108, 115, 101]) = K1 at *; generalize (ByteArray.mk #[108, 97, 115, 116]) = K2 at *; generalize (ByteArray.mk #[115, 105, 122, 101]) = K3 at *; generalize (ByteArray.mk #[99, 111, 117, 110, 116]) = K4 at *; generalize (ByteArray.mk #[99, 114, 99]) = K5 at *
      go_wp2_with fail
      go_ret
      rw [HR.out, HZ.out]
      exact ⟨rfl, rfl⟩
     ·skip
      by_cases h5 : x = s_crc
      ·skip
       have e0 : (S.toList == ({ data := #[108, 101, 110, 105, 101, 110, 116] } : ByteArray).toList) = false := by rw [hS]; exact str_neC h0
       have e1 : (S.toList == ({ data := #[101, 108, 115, 101] } : ByteArray).toList) = false := by rw [hS]; exact str_neC h1
       have e2 : (S.toList == ({ data := #[108, 97, 115, 116] } : ByteArray).toList) = false := by rw [hS]; exact str_neC h2
       have e3 : (S.toList == ({ data := #[115, 105, 122, 101] } : ByteArray).toList) = false := by rw [hS]; exact str_neC h3
       have e4 : (S.toList == ({ data := #[99, 111, 117, 110, 116] } : ByteArray).toList) = false := by rw [hS]; exact str_neC h4
       have e5 : (S.toList == ({ data := #[99, 114, 99] } : ByteArray).toList) = true := by rw [hS]; exact str_eqC h5
       have HZ := hid (show begP x = false from by unfold begP sNot; rw [h5]; decide)
       clear hS h0 h1 h2 h3 h4 h5
       go_enter Tryz.func103, Tryz.ntmps103
       generalize (ByteArray.mk #[108, 101, 110, 105, 101, 110, 116]) = K0 at *; generalize (ByteArray.mk #[101, 108, 115, 101]) = K1 at *; generalize (ByteArray.mk #[108, 97, 115, 116]) = K2 at *; generalize (ByteArray.mk #[115, 105, 122, 101]) = K3 at *; generalize (ByteArray.mk #[99, 111, 117, 110, 116]) = K4 at *; generalize (ByteArray.mk #[99, 114, 99]) = K5 at *
       go_wp2_with fail
       go_ret
       rw [HR.out, HZ.out]
       exact ⟨rfl, rfl⟩
      ·skip
       have e0 : (S.toList == ({ data := #[108, 101, 110, 105, 101, 110, 116] } : ByteArray).toList) = false := by rw [hS]; exact str_neC h0
       have e1 : (S.toList == ({ data := #[101, 108, 115, 101] } : ByteArray).toList) = false := by rw [hS]; exact str_neC h1
       have e2 : (S.toList == ({ data := #[108, 97, 115, 116] } : ByteArray).toList) = false := by rw [hS]; exact str_neC h2
       have e3 : (S.toList == ({ data := #[115, 105, 122, 101] } : ByteArray).toList) = false := by rw [hS]; exact str_neC h3
       have e4 : (S.toList == ({ data := #[99, 111, 117, 110, 116] } : ByteArray).toList) = false := by rw [hS]; exact str_neC h4
       have e5 : (S.toList == ({ data := #[99, 114, 99] } : ByteArray).toList) = false := by rw [hS]; exact str_neC h5
       have HZ := hid (show begP x = true from by unfold begP sNot; simp [h0, h1, h2, h3, h4, h5])
       clear hS h0 h1 h2 h3 h4 h5
       go_enter Tryz.func103, Tryz.ntmps103
       generalize (ByteArray.mk #[108, 101, 110, 105, 101, 110, 116]) = K0 at *; generalize (ByteArray.mk #[101, 108, 115, 101]) = K1 at *; generalize (ByteArray.mk #[108, 97, 115, 116]) = K2 at *; generalize (ByteArray.mk #[115, 105, 122, 101]) = K3 at *; generalize (ByteArray.mk #[99, 111, 117, 110, 116]) = K4 at *; generalize (ByteArray.mk #[99, 114, 99]) = K5 at *
       go_wp2_with fail
       go_ret
       rw [HR.out, HZ.out]
       exact ⟨rfl, rfl⟩
end Go.Proofs.YtfcccfplmdjndaaGreat
