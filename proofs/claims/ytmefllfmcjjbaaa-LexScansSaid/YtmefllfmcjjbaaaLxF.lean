/- lex: one token, whatever it is. -/
import Derived.Test.YtmefllfmcjjbaaaLxE
namespace Go.Proofs.Ytmefllfmcjjbaaa
open Go.RowKit

theorem TkPost.step {r : Except Nat (Nat × List UInt8 × Nat)} {w w1 : World} {g : Nat} {s : ByteArray} {i : Nat} {e : Ending} {w' : World} (h : TkPost r w1 g s i e w') (hg : w.grownBy w1 (some g)) : TkPost r w g s i e w' :=
  ⟨grown_trans hg h.1, h.2⟩
theorem TkPost.un {r : Except Nat (Nat × List UInt8 × Nat)} {w : World} {g : Nat} {s : ByteArray} {i : Nat} {e : Ending} {w' : World} (h : TkPost r w g s i e w') : ∃ (k c : Int) (X : ByteArray), e = .returned (.tuple #[.int .i64 k, .string X, .int .i64 c]) ∧ TkPost r w g s i (.returned (.tuple #[.int .i64 k, .string X, .int .i64 c])) w' := by
  cases r with
  | error c => obtain ⟨h1, rfl⟩ := h; exact ⟨_, _, _, rfl, h1, rfl⟩
  | ok v => obtain ⟨k, x, n⟩ := v; obtain ⟨h1, rfl, h3⟩ := h; exact ⟨_, _, _, rfl, h1, rfl, h3⟩
set_option maxRecDepth 100000 in
set_option maxHeartbeats 4000000 in
theorem token_any {w : World} {g : Nat} {s : ByteArray} {i : Nat} (h : Cu w g s i) (hi : i < s.size) (hs : s.size ≤ 65536) :
    Calls Try.prog 18 #[.pointer (some ⟨g, 0, none⟩)] w (TkPost (front (s.data.toList.drop i)) w g s i) := by
  have hlt2 : i < s.data.toList.length := hi
  have hr : s.data.toList.drop i = s.data.toList[i]'hlt2 :: s.data.toList.drop (i + 1) := drop_eq hlt2
  obtain ⟨c, hc⟩ : ∃ c, c = s.data.toList[i]'hlt2 := ⟨_, rfl⟩
  have hx1 : ((s[i]'hi).toNat : Int) = (c.toNat : Int) := by rw [hc]; rfl
  obtain ⟨t, ht⟩ : ∃ t, s.data.toList.drop (i + 1) = t := ⟨_, rfl⟩
  rw [← hc, ht] at hr
  have HNa := hid (fun (W : World) (h : Cu W g s i) => name_any h (by omega) hs)
  have HNu := hid (fun (W : World) (h : Cu W g s i) => number_any h (by omega) hs c t hr)
  have HPa := hid (fun (W : World) (h : Cu W g s i) => pattern_any h hi hs t ht)
  have HSi := hid (fun (W : World) (h : Cu W g s i) => sign_any h hi hs c t hr)
  have HRest := hid (fun (W : World) (h : Cu W g s i) => rest_any h (by omega) hs)
  have HL := hid (fun W => letter_any c.toNat W)
  have HD := hid (fun W => digit_any c.toNat W)
  rw [hr] at HNa HRest
  have HH := hid (fun W => Try.strings_HasPrefix ⟨(c :: t).toArray⟩ ⟨#[47]⟩ W)
  have h47 : ((c :: t).head? = some 47) = (c.toNat = 47) := propext ⟨fun h => by injection h with h; rw [h]; rfl, fun h => by rw [List.head?_cons]; exact congrArg some (UInt8.toNat_inj.1 h)⟩
  rw [show Lib.hasPrefix ((⟨(c :: t).toArray⟩ : ByteArray)).data.toList ((⟨#[47]⟩ : ByteArray)).data.toList = decide (c.toNat = 47) by rw [show Lib.hasPrefix ((⟨(c :: t).toArray⟩ : ByteArray)).data.toList ((⟨#[47]⟩ : ByteArray)).data.toList = decide ((c :: t).head? = some 47) from pre47 _]; simp only [h47]] at HH
  obtain ⟨R, hR⟩ : ∃ R, R = front (s.data.toList.drop i) := ⟨_, rfl⟩
  rw [← hR]
  rw [hr, front_cons] at hR
  have HC := hid h
  obtain ⟨h0, h1, f1⟩ := h.cells
  generalize (⟨(c :: t).toArray⟩ : ByteArray) = Y at *
  clear hr ht hc h47 h
  generalize (if 24 < span namB (c :: t) then (.error 2 : Except Nat (Nat × List UInt8 × Nat)) else .ok (1, (c :: t).take (span namB (c :: t)), span namB (c :: t))) = r1 at *
  generalize (if 20 < span digB (c :: t) then (.error 2 : Except Nat (Nat × List UInt8 × Nat)) else if 1 < span digB (c :: t) ∧ c.toNat = 48 then .error 5 else .ok (2, (c :: t).take (span digB (c :: t)), span digB (c :: t))) = r2 at *
  generalize (if (t.drop (span patB t)).head? = some 47 then (.ok (3, t.take (span patB t), span patB t + 2) : Except Nat (Nat × List UInt8 × Nat)) else .error 5) = r3 at *
  generalize (if c.toNat = 46 ∧ t.head? = some 46 then (.ok (4, [46, 46], 2) : Except Nat (Nat × List UInt8 × Nat)) else if sgB c = true then .ok (4, [c], 1) else .error 100) = r4 at *
  have n1 : (i : Int) < (s.size : Int) := by omega
  clear hlt2
  cases hl : letN c.toNat with
  | true =>
    rw [hl] at HL
    rw [if_pos hl] at hR
    have HR := hid hR
    clear hl hR HNu HPa HSi HRest HD HH
    generalize c.toNat = x at *
    go_enter Try.func18, Try.ntmps18
    go_wp2_with fail
    go_quiet (fail)
    have HC1 := hid (HC.out.drewN nq)
    have HG1 := hid (grown_drewN w nq (some g))
    clear h0 h1 f1 HC hx1
    generalize w.drewN nq = w1 at *
    go_wp2_with fail
    refine (HL.out _).mono ?_
    rintro e w2 ⟨rfl, q, rfl⟩
    have HC2 := hid (HC1.out.drewN q)
    have HG2 := hid (grown_trans HG1.out (grown_drewN w1 q _))
    clear HC1 HG1 HL
    generalize w1.drewN q = w2 at *
    go_wp2_with fail
    refine (HNa.out _ HC2.out).mono ?_
    rintro e w3 hp
    obtain ⟨k, ec, X, rfl, hp⟩ := hp.un
    have HP := hid (hp.step HG2.out)
    clear hp HC2 HG2 HNa
    go_wp2
    go_ret3
    rw [HR.out]
    exact HP.out
  | false =>
    rw [hl] at HL
    rw [if_neg (by rw [hl]; decide)] at hR
    cases hd : digN c.toNat with
    | true =>
      rw [hd] at HD
      rw [if_pos hd] at hR
      have HR := hid hR
      clear hl hd hR HNa HPa HSi HRest HH
      generalize c.toNat = x at *
      go_enter Try.func18, Try.ntmps18
      go_wp2_with fail
      go_quiet (fail)
      have HC1 := hid (HC.out.drewN nq)
      have HG1 := hid (grown_drewN w nq (some g))
      clear h0 h1 f1 HC hx1
      generalize w.drewN nq = w1 at *
      go_wp2_with fail
      refine (HL.out _).mono ?_
      rintro e w2 ⟨rfl, q, rfl⟩
      have HC2 := hid (HC1.out.drewN q)
      have HG2 := hid (grown_trans HG1.out (grown_drewN w1 q _))
      clear HC1 HG1 HL
      generalize w1.drewN q = w2 at *
      go_wp2_with fail
      refine (HD.out _).mono ?_
      rintro e w3 ⟨rfl, q, rfl⟩
      have HC3 := hid (HC2.out.drewN q)
      have HG3 := hid (grown_trans HG2.out (grown_drewN w2 q _))
      clear HC2 HG2 HD
      generalize w2.drewN q = w3 at *
      go_wp2_with fail
      refine (HNu.out _ HC3.out).mono ?_
      rintro e w4 hp
      obtain ⟨k, ec, X, rfl, hp⟩ := hp.un
      have HP := hid (hp.step HG3.out)
      clear hp HC3 HG3 HNu
      go_wp2
      go_ret3
      rw [HR.out]
      exact HP.out
    | false =>
      rw [hd] at HD
      rw [if_neg (by rw [hd]; decide)] at hR
      by_cases h47 : c.toNat = 47
      · rw [decide_eq_true h47] at HH
        rw [if_pos h47] at hR
        have HR := hid hR
        clear hl hd hR HNa HNu HSi h47
        generalize c.toNat = x at *
        go_enter Try.func18, Try.ntmps18
        go_wp2_with fail
        go_quiet (fail)
        have HC1 := hid (HC.out.drewN nq)
        have HG1 := hid (grown_drewN w nq (some g))
        clear h0 h1 f1 HC hx1
        generalize w.drewN nq = w1 at *
        go_wp2_with fail
        refine (HL.out _).mono ?_
        rintro e w2 ⟨rfl, q, rfl⟩
        have HC2 := hid (HC1.out.drewN q)
        have HG2 := hid (grown_trans HG1.out (grown_drewN w1 q _))
        clear HC1 HG1 HL
        generalize w1.drewN q = w2 at *
        go_wp2_with fail
        refine (HD.out _).mono ?_
        rintro e w3 ⟨rfl, q, rfl⟩
        have HC3 := hid (HC2.out.drewN q)
        have HG3 := hid (grown_trans HG2.out (grown_drewN w2 q _))
        clear HC2 HG2 HD
        generalize w2.drewN q = w3 at *
        go_wp2_with fail
        refine (HRest.out _ HC3.out).mono ?_
        rintro e w4 ⟨rfl, q, rfl⟩
        have HC4 := hid (HC3.out.drewN q)
        have HG4 := hid (grown_trans HG3.out (grown_drewN w3 q _))
        clear HC3 HG3 HRest
        generalize w3.drewN q = w4 at *
        go_wp2_with fail
        refine (HH.out _).mono ?_
        rintro e w5 ⟨rfl, rfl⟩
        go_wp2_with fail
        refine (HPa.out _ HC4.out).mono ?_
        rintro e w6 hp
        obtain ⟨k, ec, X, rfl, hp⟩ := hp.un
        have HP := hid (hp.step HG4.out)
        clear hp HC4 HG4 HPa
        go_wp2
        go_ret3
        rw [HR.out]
        exact HP.out
      · rw [decide_eq_false h47] at HH
        rw [if_neg h47] at hR
        have HR := hid hR
        clear hl hd hR HNa HNu HPa h47
        generalize c.toNat = x at *
        go_enter Try.func18, Try.ntmps18
        go_wp2_with fail
        go_quiet (fail)
        have HC1 := hid (HC.out.drewN nq)
        have HG1 := hid (grown_drewN w nq (some g))
        clear h0 h1 f1 HC hx1
        generalize w.drewN nq = w1 at *
        go_wp2_with fail
        refine (HL.out _).mono ?_
        rintro e w2 ⟨rfl, q, rfl⟩
        have HC2 := hid (HC1.out.drewN q)
        have HG2 := hid (grown_trans HG1.out (grown_drewN w1 q _))
        clear HC1 HG1 HL
        generalize w1.drewN q = w2 at *
        go_wp2_with fail
        refine (HD.out _).mono ?_
        rintro e w3 ⟨rfl, q, rfl⟩
        have HC3 := hid (HC2.out.drewN q)
        have HG3 := hid (grown_trans HG2.out (grown_drewN w2 q _))
        clear HC2 HG2 HD
        generalize w2.drewN q = w3 at *
        go_wp2_with fail
        refine (HRest.out _ HC3.out).mono ?_
        rintro e w4 ⟨rfl, q, rfl⟩
        have HC4 := hid (HC3.out.drewN q)
        have HG4 := hid (grown_trans HG3.out (grown_drewN w3 q _))
        clear HC3 HG3 HRest
        generalize w3.drewN q = w4 at *
        go_wp2_with fail
        refine (HH.out _).mono ?_
        rintro e w5 ⟨rfl, rfl⟩
        go_wp2_with fail
        refine (HSi.out _ HC4.out).mono ?_
        rintro e w6 hp
        obtain ⟨k, ec, X, rfl, hp⟩ := hp.un
        have HP := hid (hp.step HG4.out)
        clear hp HC4 HG4 HSi
        go_wp2
        go_ret3
        rw [HR.out]
        exact HP.out
end Go.Proofs.Ytmefllfmcjjbaaa
