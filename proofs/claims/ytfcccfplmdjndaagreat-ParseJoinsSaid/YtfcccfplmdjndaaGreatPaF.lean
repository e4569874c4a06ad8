/- parse: how a field is derived. -/
import Derived.Test.YtfcccfplmdjndaaGreatPaE
namespace Go.Proofs.YtfcccfplmdjndaaGreat
set_option linter.unusedSimpArgs false
set_option linter.unusedVariables false
open Go.RowKit

variable {w w' w0 : World} {O O0 : Nat → Prop} {g : Nat} {L : List Tk} {s s' : RS}
theorem took_no {k : Nat} {x : List UInt8} {r : RS} (h : (false, r) = tookP k x s) : r = s := by
 unfold tookP at h
 split at h
 ·cases h
 ·injection h
def ftOf (nm : ByteArray) (ty : Int) (d : Int × List UInt8 × List UInt8) : FT := ⟨nm, ty, d.1, ⟨d.2.1.toArray⟩, ⟨d.2.2.toArray⟩⟩
set_option maxRecDepth 100000 in
set_option maxHeartbeats 8000000 in
theorem derive_any (h : At w0 O0 g L w O s) {bf : Nat} {nm : ByteArray} {ty : Int} (hb : Bx w0 w O bf 64 (FT.cells ⟨nm, ty, 0, ⟨#[]⟩, ⟨#[]⟩⟩)) : Calls Tryz.prog 125 #[.pointer (some ⟨g, 0, none⟩), .pointer (some ⟨bf, 0, none⟩)] w fun e w' => e = .returned (.tuple #[]) ∧ ∃ O', At w0 O0 g L w' O' (deriveP s).2 ∧ Bx w0 w' O' bf 64 (FT.cells (ftOf nm ty (deriveP s).1)) ∧ ∀ b T cs, Blk w b T cs → ¬ O b → b ≠ bf → Blk w' b T cs ∧ ¬ O' b := by
 have HA := hid h
 have HXf := hid hb
 have HOt := hid (show ∀ b T cs, Blk w b T cs → ¬ O b → b ≠ bf → Blk w b T cs ∧ ¬ O b from fun b T cs h1 h2 _ => ⟨h1, h2⟩)
 obtain ⟨wk, hwk⟩ : ∃ W, W = w := ⟨_, rfl⟩
 obtain ⟨Ok, hOk⟩ : ∃ X, X = O := ⟨_, rfl⟩
 clear h hb hwk hOk wk Ok
 go_enter Tryz.func125, Tryz.ntmps125
 go_upto_region 1 with fail
 have HC := hid (show Calls Tryz.prog 86 #[.pointer (some ⟨g, 0, none⟩), .int .i64 1, .string ⟨#[115, 105, 122, 101]⟩] _ (fun e w' => e = .returned (.bool (tookP 1 s_size s).1) ∧ StG _ _ g L (tookP 1 s_size s).2 w') from took_g HA.out.rd 1 s_size)
 obtain ⟨t1, ht1⟩ : ∃ t, t = tookP 1 s_size s := ⟨_, rfl⟩
 rw [← ht1] at HC
 have HT1 := hid ht1
 clear ht1
 obtain ⟨c1, r1⟩ := t1
 simp only at HC
 cases c1
 rotate_left
 ·go_upto_region 2 with (go_at_call 86; (with_reducible refine HC.out.mono ?_); rintro e wk ⟨rfl, hk⟩; obtain ⟨Ok, ha, hb⟩ := At.call HA.out hk; replace HA := hid ha; replace HXf := hid (HXf.out.call hb); replace HOt := hid (show ∀ b T cs, Blk w b T cs → ¬ O b → b ≠ bf → Blk wk b T cs ∧ ¬ Ok b from fun b T cs h1 h2 h3 => hb b T cs (HOt.out b T cs h1 h2 h3).1 (HOt.out b T cs h1 h2 h3).2); clear hk ha hb; clear HC)
  have zf_2 : _ = some ((.int .i64 0 : Value)) := HXf.out.at 2; have yf_2 := HXf.out.free 2
  go_upto_region 7 with fail
  have ha := HA.out.bset HXf.out 2 (.int .i64 1)
  have hx := HXf.out.put 2 (.int .i64 1)
  replace HOt := hid (show ∀ b T cs, Blk w b T cs → ¬ O b → b ≠ bf → Blk (wk.setCell ⟨bf, 2, none⟩ (.int .i64 1)) b T cs ∧ ¬ Ok b from fun b T cs h1 h2 h3 => ⟨(HOt.out b T cs h1 h2 h3).1.other h3 _, (HOt.out b T cs h1 h2 h3).2⟩)
  replace HA := hid ha
  replace HXf := hid (show Bx _ _ _ _ _ (FT.cells ⟨nm, ty, 1, ⟨#[]⟩, ⟨#[]⟩⟩) from hx)
  clear ha hx zf_2 yf_2
  generalize wk.setCell ⟨bf, 2, none⟩ (.int .i64 1) = wp at *
  have HC := hid (show Calls Tryz.prog 53 #[.pointer (some ⟨g, 0, none⟩), .string ⟨#[40]⟩] _ (fun e w' => e = .returned (.tuple #[]) ∧ StG _ _ g L (signP [40] r1) w') from sign_g HA.out.rd [40])
  obtain ⟨u1, hu1⟩ : ∃ u, u = signP [40] r1 := ⟨_, rfl⟩
  rw [← hu1] at HC
  have HU1 := hid hu1
  clear hu1
  go_upto_region 8 with (go_at_call 53; (with_reducible refine HC.out.mono ?_); rintro e wk ⟨rfl, hk⟩; obtain ⟨Ok, ha, hb⟩ := At.call HA.out hk; replace HA := hid ha; replace HXf := hid (HXf.out.call hb); replace HOt := hid (show ∀ b T cs, Blk w b T cs → ¬ O b → b ≠ bf → Blk wk b T cs ∧ ¬ Ok b from fun b T cs h1 h2 h3 => hb b T cs (HOt.out b T cs h1 h2 h3).1 (HOt.out b T cs h1 h2 h3).2); clear hk ha hb; clear HC)
  have HC := hid (name_g HA.out.rd)
  obtain ⟨u2, hu2⟩ : ∃ u, u = nameP u1 := ⟨_, rfl⟩
  rw [← hu2] at HC
  have HU2 := hid hu2
  clear hu2
  go_upto_region 9 with (go_at_call 52; (with_reducible refine HC.out.mono ?_); rintro e wk ⟨rfl, hk⟩; obtain ⟨Ok, ha, hb⟩ := At.call HA.out hk; replace HA := hid ha; replace HXf := hid (HXf.out.call hb); replace HOt := hid (show ∀ b T cs, Blk w b T cs → ¬ O b → b ≠ bf → Blk wk b T cs ∧ ¬ Ok b from fun b T cs h1 h2 h3 => hb b T cs (HOt.out b T cs h1 h2 h3).1 (HOt.out b T cs h1 h2 h3).2); clear hk ha hb; clear HC; have zf_3 : _ = some ((.string ⟨#[]⟩ : Value)) := HXf.out.at 3; have yf_3 := HXf.out.free 3)
  have ha := HA.out.bset HXf.out 3 (.string ⟨u2.1.toArray⟩)
  have hx := HXf.out.put 3 (.string ⟨u2.1.toArray⟩)
  replace HOt := hid (show ∀ b T cs, Blk w b T cs → ¬ O b → b ≠ bf → Blk (wk.setCell ⟨bf, 3, none⟩ (.string ⟨u2.1.toArray⟩)) b T cs ∧ ¬ Ok b from fun b T cs h1 h2 h3 => ⟨(HOt.out b T cs h1 h2 h3).1.other h3 _, (HOt.out b T cs h1 h2 h3).2⟩)
  replace HA := hid ha
  replace HXf := hid (show Bx _ _ _ _ _ (FT.cells ⟨nm, ty, 1, ⟨u2.1.toArray⟩, ⟨#[]⟩⟩) from hx)
  clear ha hx zf_3 yf_3
  generalize wk.setCell ⟨bf, 3, none⟩ (.string ⟨u2.1.toArray⟩) = wq at *
  have zf_2 : _ = some ((.int .i64 1 : Value)) := HXf.out.at 2; have yf_2 := HXf.out.free 2
  go_upto_region 12 with fail
  clear zf_2 yf_2
  have HC := hid (show Calls Tryz.prog 53 #[.pointer (some ⟨g, 0, none⟩), .string ⟨#[41]⟩] _ (fun e w' => e = .returned (.tuple #[]) ∧ StG _ _ g L (signP [41] u2.2) w') from sign_g HA.out.rd [41])
  go_wp2_with (go_at_call 53; (with_reducible refine HC.out.mono ?_); rintro e wk ⟨rfl, hk⟩; obtain ⟨Ok, ha, hb⟩ := At.call HA.out hk; replace HA := hid ha; replace HXf := hid (HXf.out.call hb); replace HOt := hid (show ∀ b T cs, Blk w b T cs → ¬ O b → b ≠ bf → Blk wk b T cs ∧ ¬ Ok b from fun b T cs h1 h2 h3 => hb b T cs (HOt.out b T cs h1 h2 h3).1 (HOt.out b T cs h1 h2 h3).2); clear hk ha hb; clear HC)
  go_end0
  have HRE : deriveP s = ((1, u2.1, []), signP [41] u2.2) := by
   unfold deriveP
   simp only [← HT1.out]
   simp only [if_true, if_false, Bool.false_eq_true, ← HU1.out, ← HU2.out]
   try simp
  rw [HRE]
  exact ⟨rfl, _, HA.out, HXf.out, HOt.out⟩
 ·obtain ⟨s0, hs0⟩ : ∃ x, x = s := ⟨_, rfl⟩
  have hr := took_no HT1.out
  subst hr
  clear hs0 s0
  go_upto_region 3 with (go_at_call 86; (with_reducible refine HC.out.mono ?_); rintro e wk ⟨rfl, hk⟩; obtain ⟨Ok, ha, hb⟩ := At.call HA.out hk; replace HA := hid ha; replace HXf := hid (HXf.out.call hb); replace HOt := hid (show ∀ b T cs, Blk w b T cs → ¬ O b → b ≠ bf → Blk wk b T cs ∧ ¬ Ok b from fun b T cs h1 h2 h3 => hb b T cs (HOt.out b T cs h1 h2 h3).1 (HOt.out b T cs h1 h2 h3).2); clear hk ha hb; clear HC)
  have HC := hid (show Calls Tryz.prog 86 #[.pointer (some ⟨g, 0, none⟩), .int .i64 1, .string ⟨#[99, 111, 117, 110, 116]⟩] _ (fun e w' => e = .returned (.bool (tookP 1 s_count r1).1) ∧ StG _ _ g L (tookP 1 s_count r1).2 w') from took_g HA.out.rd 1 s_count)
  obtain ⟨t2, ht2⟩ : ∃ t, t = tookP 1 s_count r1 := ⟨_, rfl⟩
  rw [← ht2] at HC
  have HT2 := hid ht2
  clear ht2
  obtain ⟨c2, r2⟩ := t2
  simp only at HC
  cases c2
  rotate_left
  ·go_upto_region 4 with (go_at_call 86; (with_reducible refine HC.out.mono ?_); rintro e wk ⟨rfl, hk⟩; obtain ⟨Ok, ha, hb⟩ := At.call HA.out hk; replace HA := hid ha; replace HXf := hid (HXf.out.call hb); replace HOt := hid (show ∀ b T cs, Blk w b T cs → ¬ O b → b ≠ bf → Blk wk b T cs ∧ ¬ Ok b from fun b T cs h1 h2 h3 => hb b T cs (HOt.out b T cs h1 h2 h3).1 (HOt.out b T cs h1 h2 h3).2); clear hk ha hb; clear HC)
   have zf_2 : _ = some ((.int .i64 0 : Value)) := HXf.out.at 2; have yf_2 := HXf.out.free 2
   go_upto_region 7 with fail
   have ha := HA.out.bset HXf.out 2 (.int .i64 2)
   have hx := HXf.out.put 2 (.int .i64 2)
   replace HOt := hid (show ∀ b T cs, Blk w b T cs → ¬ O b → b ≠ bf → Blk (wk.setCell ⟨bf, 2, none⟩ (.int .i64 2)) b T cs ∧ ¬ Ok b from fun b T cs h1 h2 h3 => ⟨(HOt.out b T cs h1 h2 h3).1.other h3 _, (HOt.out b T cs h1 h2 h3).2⟩)
   replace HA := hid ha
   replace HXf := hid (show Bx _ _ _ _ _ (FT.cells ⟨nm, ty, 2, ⟨#[]⟩, ⟨#[]⟩⟩) from hx)
   clear ha hx zf_2 yf_2
   generalize wk.setCell ⟨bf, 2, none⟩ (.int .i64 2) = wp at *
   have HC := hid (show Calls Tryz.prog 53 #[.pointer (some ⟨g, 0, none⟩), .string ⟨#[40]⟩] _ (fun e w' => e = .returned (.tuple #[]) ∧ StG _ _ g L (signP [40] r2) w') from sign_g HA.out.rd [40])
   obtain ⟨u1, hu1⟩ : ∃ u, u = signP [40] r2 := ⟨_, rfl⟩
   rw [← hu1] at HC
   have HU1 := hid hu1
   clear hu1
   go_upto_region 8 with (go_at_call 53; (with_reducible refine HC.out.mono ?_); rintro e wk ⟨rfl, hk⟩; obtain ⟨Ok, ha, hb⟩ := At.call HA.out hk; replace HA := hid ha; replace HXf := hid (HXf.out.call hb); replace HOt := hid (show ∀ b T cs, Blk w b T cs → ¬ O b → b ≠ bf → Blk wk b T cs ∧ ¬ Ok b from fun b T cs h1 h2 h3 => hb b T cs (HOt.out b T cs h1 h2 h3).1 (HOt.out b T cs h1 h2 h3).2); clear hk ha hb; clear HC)
   have HC := hid (name_g HA.out.rd)
   obtain ⟨u2, hu2⟩ : ∃ u, u = nameP u1 := ⟨_, rfl⟩
   rw [← hu2] at HC
   have HU2 := hid hu2
   clear hu2
   go_upto_region 9 with (go_at_call 52; (with_reducible refine HC.out.mono ?_); rintro e wk ⟨rfl, hk⟩; obtain ⟨Ok, ha, hb⟩ := At.call HA.out hk; replace HA := hid ha; replace HXf := hid (HXf.out.call hb); replace HOt := hid (show ∀ b T cs, Blk w b T cs → ¬ O b → b ≠ bf → Blk wk b T cs ∧ ¬ Ok b from fun b T cs h1 h2 h3 => hb b T cs (HOt.out b T cs h1 h2 h3).1 (HOt.out b T cs h1 h2 h3).2); clear hk ha hb; clear HC; have zf_3 : _ = some ((.string ⟨#[]⟩ : Value)) := HXf.out.at 3; have yf_3 := HXf.out.free 3)
   have ha := HA.out.bset HXf.out 3 (.string ⟨u2.1.toArray⟩)
   have hx := HXf.out.put 3 (.string ⟨u2.1.toArray⟩)
   replace HOt := hid (show ∀ b T cs, Blk w b T cs → ¬ O b → b ≠ bf → Blk (wk.setCell ⟨bf, 3, none⟩ (.string ⟨u2.1.toArray⟩)) b T cs ∧ ¬ Ok b from fun b T cs h1 h2 h3 => ⟨(HOt.out b T cs h1 h2 h3).1.other h3 _, (HOt.out b T cs h1 h2 h3).2⟩)
   replace HA := hid ha
   replace HXf := hid (show Bx _ _ _ _ _ (FT.cells ⟨nm, ty, 2, ⟨u2.1.toArray⟩, ⟨#[]⟩⟩) from hx)
   clear ha hx zf_3 yf_3
   generalize wk.setCell ⟨bf, 3, none⟩ (.string ⟨u2.1.toArray⟩) = wq at *
   have zf_2 : _ = some ((.int .i64 2 : Value)) := HXf.out.at 2; have yf_2 := HXf.out.free 2
   go_upto_region 12 with fail
   clear zf_2 yf_2
   have HC := hid (show Calls Tryz.prog 53 #[.pointer (some ⟨g, 0, none⟩), .string ⟨#[41]⟩] _ (fun e w' => e = .returned (.tuple #[]) ∧ StG _ _ g L (signP [41] u2.2) w') from sign_g HA.out.rd [41])
   go_wp2_with (go_at_call 53; (with_reducible refine HC.out.mono ?_); rintro e wk ⟨rfl, hk⟩; obtain ⟨Ok, ha, hb⟩ := At.call HA.out hk; replace HA := hid ha; replace HXf := hid (HXf.out.call hb); replace HOt := hid (show ∀ b T cs, Blk w b T cs → ¬ O b → b ≠ bf → Blk wk b T cs ∧ ¬ Ok b from fun b T cs h1 h2 h3 => hb b T cs (HOt.out b T cs h1 h2 h3).1 (HOt.out b T cs h1 h2 h3).2); clear hk ha hb; clear HC)
   go_end0
   have HRE : deriveP r1 = ((2, u2.1, []), signP [41] u2.2) := by
    unfold deriveP
    simp only [← HT1.out, ← HT2.out]
    simp only [if_true, if_false, Bool.false_eq_true, ← HU1.out, ← HU2.out]
    try simp
   rw [HRE]
   exact ⟨rfl, _, HA.out, HXf.out, HOt.out⟩
  ·have hr := took_no HT2.out
   subst hr
   go_upto_region 5 with (go_at_call 86; (with_reducible refine HC.out.mono ?_); rintro e wk ⟨rfl, hk⟩; obtain ⟨Ok, ha, hb⟩ := At.call HA.out hk; replace HA := hid ha; replace HXf := hid (HXf.out.call hb); replace HOt := hid (show ∀ b T cs, Blk w b T cs → ¬ O b → b ≠ bf → Blk wk b T cs ∧ ¬ Ok b from fun b T cs h1 h2 h3 => hb b T cs (HOt.out b T cs h1 h2 h3).1 (HOt.out b T cs h1 h2 h3).2); clear hk ha hb; clear HC)
   have HC := hid (show Calls Tryz.prog 86 #[.pointer (some ⟨g, 0, none⟩), .int .i64 1, .string ⟨#[99, 114, 99]⟩] _ (fun e w' => e = .returned (.bool (tookP 1 s_crc r2).1) ∧ StG _ _ g L (tookP 1 s_crc r2).2 w') from took_g HA.out.rd 1 s_crc)
   obtain ⟨t3, ht3⟩ : ∃ t, t = tookP 1 s_crc r2 := ⟨_, rfl⟩
   rw [← ht3] at HC
   have HT3 := hid ht3
   clear ht3
   obtain ⟨c3, r3⟩ := t3
   simp only at HC
   cases c3
   rotate_left
   ·go_upto_region 6 with (go_at_call 86; (with_reducible refine HC.out.mono ?_); rintro e wk ⟨rfl, hk⟩; obtain ⟨Ok, ha, hb⟩ := At.call HA.out hk; replace HA := hid ha; replace HXf := hid (HXf.out.call hb); replace HOt := hid (show ∀ b T cs, Blk w b T cs → ¬ O b → b ≠ bf → Blk wk b T cs ∧ ¬ Ok b from fun b T cs h1 h2 h3 => hb b T cs (HOt.out b T cs h1 h2 h3).1 (HOt.out b T cs h1 h2 h3).2); clear hk ha hb; clear HC)
    have zf_2 : _ = some ((.int .i64 0 : Value)) := HXf.out.at 2; have yf_2 := HXf.out.free 2
    go_upto_region 7 with fail
    have ha := HA.out.bset HXf.out 2 (.int .i64 3)
    have hx := HXf.out.put 2 (.int .i64 3)
    replace HOt := hid (show ∀ b T cs, Blk w b T cs → ¬ O b → b ≠ bf → Blk (wk.setCell ⟨bf, 2, none⟩ (.int .i64 3)) b T cs ∧ ¬ Ok b from fun b T cs h1 h2 h3 => ⟨(HOt.out b T cs h1 h2 h3).1.other h3 _, (HOt.out b T cs h1 h2 h3).2⟩)
    replace HA := hid ha
    replace HXf := hid (show Bx _ _ _ _ _ (FT.cells ⟨nm, ty, 3, ⟨#[]⟩, ⟨#[]⟩⟩) from hx)
    clear ha hx zf_2 yf_2
    generalize wk.setCell ⟨bf, 2, none⟩ (.int .i64 3) = wp at *
    have HC := hid (show Calls Tryz.prog 53 #[.pointer (some ⟨g, 0, none⟩), .string ⟨#[40]⟩] _ (fun e w' => e = .returned (.tuple #[]) ∧ StG _ _ g L (signP [40] r3) w') from sign_g HA.out.rd [40])
    obtain ⟨u1, hu1⟩ : ∃ u, u = signP [40] r3 := ⟨_, rfl⟩
    rw [← hu1] at HC
    have HU1 := hid hu1
    clear hu1
    go_upto_region 8 with (go_at_call 53; (with_reducible refine HC.out.mono ?_); rintro e wk ⟨rfl, hk⟩; obtain ⟨Ok, ha, hb⟩ := At.call HA.out hk; replace HA := hid ha; replace HXf := hid (HXf.out.call hb); replace HOt := hid (show ∀ b T cs, Blk w b T cs → ¬ O b → b ≠ bf → Blk wk b T cs ∧ ¬ Ok b from fun b T cs h1 h2 h3 => hb b T cs (HOt.out b T cs h1 h2 h3).1 (HOt.out b T cs h1 h2 h3).2); clear hk ha hb; clear HC)
    have HC := hid (name_g HA.out.rd)
    obtain ⟨u2, hu2⟩ : ∃ u, u = nameP u1 := ⟨_, rfl⟩
    rw [← hu2] at HC
    have HU2 := hid hu2
    clear hu2
    go_upto_region 9 with (go_at_call 52; (with_reducible refine HC.out.mono ?_); rintro e wk ⟨rfl, hk⟩; obtain ⟨Ok, ha, hb⟩ := At.call HA.out hk; replace HA := hid ha; replace HXf := hid (HXf.out.call hb); replace HOt := hid (show ∀ b T cs, Blk w b T cs → ¬ O b → b ≠ bf → Blk wk b T cs ∧ ¬ Ok b from fun b T cs h1 h2 h3 => hb b T cs (HOt.out b T cs h1 h2 h3).1 (HOt.out b T cs h1 h2 h3).2); clear hk ha hb; clear HC; have zf_3 : _ = some ((.string ⟨#[]⟩ : Value)) := HXf.out.at 3; have yf_3 := HXf.out.free 3)
    have ha := HA.out.bset HXf.out 3 (.string ⟨u2.1.toArray⟩)
    have hx := HXf.out.put 3 (.string ⟨u2.1.toArray⟩)
    replace HOt := hid (show ∀ b T cs, Blk w b T cs → ¬ O b → b ≠ bf → Blk (wk.setCell ⟨bf, 3, none⟩ (.string ⟨u2.1.toArray⟩)) b T cs ∧ ¬ Ok b from fun b T cs h1 h2 h3 => ⟨(HOt.out b T cs h1 h2 h3).1.other h3 _, (HOt.out b T cs h1 h2 h3).2⟩)
    replace HA := hid ha
    replace HXf := hid (show Bx _ _ _ _ _ (FT.cells ⟨nm, ty, 3, ⟨u2.1.toArray⟩, ⟨#[]⟩⟩) from hx)
    clear ha hx zf_3 yf_3
    generalize wk.setCell ⟨bf, 3, none⟩ (.string ⟨u2.1.toArray⟩) = wq at *
    have zf_2 : _ = some ((.int .i64 3 : Value)) := HXf.out.at 2; have yf_2 := HXf.out.free 2
    go_upto_region 10 with fail
    clear zf_2 yf_2
    have HC := hid (show Calls Tryz.prog 53 #[.pointer (some ⟨g, 0, none⟩), .string ⟨#[46, 46]⟩] _ (fun e w' => e = .returned (.tuple #[]) ∧ StG _ _ g L (signP [46, 46] u2.2) w') from sign_g HA.out.rd [46, 46])
    obtain ⟨u3, hu3⟩ : ∃ u, u = signP [46, 46] u2.2 := ⟨_, rfl⟩
    rw [← hu3] at HC
    have HU3 := hid hu3
    clear hu3
    go_upto_region 11 with (go_at_call 53; (with_reducible refine HC.out.mono ?_); rintro e wk ⟨rfl, hk⟩; obtain ⟨Ok, ha, hb⟩ := At.call HA.out hk; replace HA := hid ha; replace HXf := hid (HXf.out.call hb); replace HOt := hid (show ∀ b T cs, Blk w b T cs → ¬ O b → b ≠ bf → Blk wk b T cs ∧ ¬ Ok b from fun b T cs h1 h2 h3 => hb b T cs (HOt.out b T cs h1 h2 h3).1 (HOt.out b T cs h1 h2 h3).2); clear hk ha hb; clear HC)
    have HC := hid (name_g HA.out.rd)
    obtain ⟨u4, hu4⟩ : ∃ u, u = nameP u3 := ⟨_, rfl⟩
    rw [← hu4] at HC
    have HU4 := hid hu4
    clear hu4
    go_upto_region 12 with (go_at_call 52; (with_reducible refine HC.out.mono ?_); rintro e wk ⟨rfl, hk⟩; obtain ⟨Ok, ha, hb⟩ := At.call HA.out hk; replace HA := hid ha; replace HXf := hid (HXf.out.call hb); replace HOt := hid (show ∀ b T cs, Blk w b T cs → ¬ O b → b ≠ bf → Blk wk b T cs ∧ ¬ Ok b from fun b T cs h1 h2 h3 => hb b T cs (HOt.out b T cs h1 h2 h3).1 (HOt.out b T cs h1 h2 h3).2); clear hk ha hb; clear HC; have zf_4 : _ = some ((.string ⟨#[]⟩ : Value)) := HXf.out.at 4; have yf_4 := HXf.out.free 4)
    have ha := HA.out.bset HXf.out 4 (.string ⟨u4.1.toArray⟩)
    have hx := HXf.out.put 4 (.string ⟨u4.1.toArray⟩)
    replace HOt := hid (show ∀ b T cs, Blk w b T cs → ¬ O b → b ≠ bf → Blk (wk.setCell ⟨bf, 4, none⟩ (.string ⟨u4.1.toArray⟩)) b T cs ∧ ¬ Ok b from fun b T cs h1 h2 h3 => ⟨(HOt.out b T cs h1 h2 h3).1.other h3 _, (HOt.out b T cs h1 h2 h3).2⟩)
    replace HA := hid ha
    replace HXf := hid (show Bx _ _ _ _ _ (FT.cells ⟨nm, ty, 3, ⟨u2.1.toArray⟩, ⟨u4.1.toArray⟩⟩) from hx)
    clear ha hx zf_4 yf_4
    generalize wk.setCell ⟨bf, 4, none⟩ (.string ⟨u4.1.toArray⟩) = wr at *
    have HC := hid (show Calls Tryz.prog 53 #[.pointer (some ⟨g, 0, none⟩), .string ⟨#[41]⟩] _ (fun e w' => e = .returned (.tuple #[]) ∧ StG _ _ g L (signP [41] u4.2) w') from sign_g HA.out.rd [41])
    go_wp2_with (go_at_call 53; (with_reducible refine HC.out.mono ?_); rintro e wk ⟨rfl, hk⟩; obtain ⟨Ok, ha, hb⟩ := At.call HA.out hk; replace HA := hid ha; replace HXf := hid (HXf.out.call hb); replace HOt := hid (show ∀ b T cs, Blk w b T cs → ¬ O b → b ≠ bf → Blk wk b T cs ∧ ¬ Ok b from fun b T cs h1 h2 h3 => hb b T cs (HOt.out b T cs h1 h2 h3).1 (HOt.out b T cs h1 h2 h3).2); clear hk ha hb; clear HC)
    go_end0
    have HRE : deriveP r2 = ((3, u2.1, u4.1), signP [41] u4.2) := by
     unfold deriveP
     simp only [← HT1.out, ← HT2.out, ← HT3.out]
     simp only [if_true, if_false, Bool.false_eq_true, ← HU1.out, ← HU2.out, ← HU3.out, ← HU4.out]
     try simp
    rw [HRE]
    exact ⟨rfl, _, HA.out, HXf.out, HOt.out⟩
   ·have hr := took_no HT3.out
    subst hr
    go_upto_region 0 with (go_at_call 86; (with_reducible refine HC.out.mono ?_); rintro e wk ⟨rfl, hk⟩; obtain ⟨Ok, ha, hb⟩ := At.call HA.out hk; replace HA := hid ha; replace HXf := hid (HXf.out.call hb); replace HOt := hid (show ∀ b T cs, Blk w b T cs → ¬ O b → b ≠ bf → Blk wk b T cs ∧ ¬ Ok b from fun b T cs h1 h2 h3 => hb b T cs (HOt.out b T cs h1 h2 h3).1 (HOt.out b T cs h1 h2 h3).2); clear hk ha hb; clear HC)
    have HC := hid (show Calls Tryz.prog 85 #[.pointer (some ⟨g, 0, none⟩), .int .i64 5] _ (fun e w' => e = .returned (.tuple #[]) ∧ StG _ _ g L (failP 5 r3) w') from fail_g HA.out.rd 5)
    obtain ⟨r4, hr4⟩ : ∃ r, r = failP 5 r3 := ⟨_, rfl⟩
    rw [← hr4] at HC
    have HR4 := hid hr4
    clear hr4
    go_upto_region 7 with (go_at_call 85; (with_reducible refine HC.out.mono ?_); rintro e wk ⟨rfl, hk⟩; obtain ⟨Ok, ha, hb⟩ := At.call HA.out hk; replace HA := hid ha; replace HXf := hid (HXf.out.call hb); replace HOt := hid (show ∀ b T cs, Blk w b T cs → ¬ O b → b ≠ bf → Blk wk b T cs ∧ ¬ Ok b from fun b T cs h1 h2 h3 => hb b T cs (HOt.out b T cs h1 h2 h3).1 (HOt.out b T cs h1 h2 h3).2); clear hk ha hb; clear HC)
    obtain ⟨wz, hwz⟩ : ∃ W, W = wk := ⟨_, rfl⟩
    clear hwz wz
    have HC := hid (show Calls Tryz.prog 53 #[.pointer (some ⟨g, 0, none⟩), .string ⟨#[40]⟩] _ (fun e w' => e = .returned (.tuple #[]) ∧ StG _ _ g L (signP [40] r4) w') from sign_g HA.out.rd [40])
    obtain ⟨u1, hu1⟩ : ∃ u, u = signP [40] r4 := ⟨_, rfl⟩
    rw [← hu1] at HC
    have HU1 := hid hu1
    clear hu1
    go_upto_region 8 with (go_at_call 53; (with_reducible refine HC.out.mono ?_); rintro e wk ⟨rfl, hk⟩; obtain ⟨Ok, ha, hb⟩ := At.call HA.out hk; replace HA := hid ha; replace HXf := hid (HXf.out.call hb); replace HOt := hid (show ∀ b T cs, Blk w b T cs → ¬ O b → b ≠ bf → Blk wk b T cs ∧ ¬ Ok b from fun b T cs h1 h2 h3 => hb b T cs (HOt.out b T cs h1 h2 h3).1 (HOt.out b T cs h1 h2 h3).2); clear hk ha hb; clear HC)
    have HC := hid (name_g HA.out.rd)
    obtain ⟨u2, hu2⟩ : ∃ u, u = nameP u1 := ⟨_, rfl⟩
    rw [← hu2] at HC
    have HU2 := hid hu2
    clear hu2
    go_upto_region 9 with (go_at_call 52; (with_reducible refine HC.out.mono ?_); rintro e wk ⟨rfl, hk⟩; obtain ⟨Ok, ha, hb⟩ := At.call HA.out hk; replace HA := hid ha; replace HXf := hid (HXf.out.call hb); replace HOt := hid (show ∀ b T cs, Blk w b T cs → ¬ O b → b ≠ bf → Blk wk b T cs ∧ ¬ Ok b from fun b T cs h1 h2 h3 => hb b T cs (HOt.out b T cs h1 h2 h3).1 (HOt.out b T cs h1 h2 h3).2); clear hk ha hb; clear HC; have zf_3 : _ = some ((.string ⟨#[]⟩ : Value)) := HXf.out.at 3; have yf_3 := HXf.out.free 3)
    have ha := HA.out.bset HXf.out 3 (.string ⟨u2.1.toArray⟩)
    have hx := HXf.out.put 3 (.string ⟨u2.1.toArray⟩)
    replace HOt := hid (show ∀ b T cs, Blk w b T cs → ¬ O b → b ≠ bf → Blk (wk.setCell ⟨bf, 3, none⟩ (.string ⟨u2.1.toArray⟩)) b T cs ∧ ¬ Ok b from fun b T cs h1 h2 h3 => ⟨(HOt.out b T cs h1 h2 h3).1.other h3 _, (HOt.out b T cs h1 h2 h3).2⟩)
    replace HA := hid ha
    replace HXf := hid (show Bx _ _ _ _ _ (FT.cells ⟨nm, ty, 0, ⟨u2.1.toArray⟩, ⟨#[]⟩⟩) from hx)
    clear ha hx zf_3 yf_3
    generalize wk.setCell ⟨bf, 3, none⟩ (.string ⟨u2.1.toArray⟩) = wq at *
    have zf_2 : _ = some ((.int .i64 0 : Value)) := HXf.out.at 2; have yf_2 := HXf.out.free 2
    go_upto_region 12 with fail
    clear zf_2 yf_2
    have HC := hid (show Calls Tryz.prog 53 #[.pointer (some ⟨g, 0, none⟩), .string ⟨#[41]⟩] _ (fun e w' => e = .returned (.tuple #[]) ∧ StG _ _ g L (signP [41] u2.2) w') from sign_g HA.out.rd [41])
    go_wp2_with (go_at_call 53; (with_reducible refine HC.out.mono ?_); rintro e wk ⟨rfl, hk⟩; obtain ⟨Ok, ha, hb⟩ := At.call HA.out hk; replace HA := hid ha; replace HXf := hid (HXf.out.call hb); replace HOt := hid (show ∀ b T cs, Blk w b T cs → ¬ O b → b ≠ bf → Blk wk b T cs ∧ ¬ Ok b from fun b T cs h1 h2 h3 => hb b T cs (HOt.out b T cs h1 h2 h3).1 (HOt.out b T cs h1 h2 h3).2); clear hk ha hb; clear HC)
    go_end0
    have HRE : deriveP r3 = ((0, u2.1, []), signP [41] u2.2) := by
     unfold deriveP
     simp only [← HT1.out, ← HT2.out, ← HT3.out, ← HR4.out]
     simp only [if_true, if_false, Bool.false_eq_true, ← HU1.out, ← HU2.out]
     try simp
    rw [HRE]
    exact ⟨rfl, _, HA.out, HXf.out, HOt.out⟩
end Go.Proofs.YtfcccfplmdjndaaGreat
