/- parse: the reader's signs, names and numbers. -/
import Derived.Test.YtfcccfplmdjndaaGreatPaS
import Derived.Test.YtfcccfplmdjndaaGreatPaV
import Derived.Test.YtfcccfplmdjndaaGreatPaFw
namespace Go.Proofs.YtfcccfplmdjndaaGreat
set_option linter.unusedSimpArgs false
set_option linter.unusedVariables false
open Go.RowKit

variable {w w' : World} {O S : Nat → Prop} {g : Nat} {L : List Tk} {A : Option Addr} {c : Nat} {vs : List NV} {nv dv : Value} {s : RS}
theorem Stp.trans {w1 : World} {s1 s2 : RS} (h1 : Stp w O g L vs nv dv s1 w1) (h2 : Stp w1 O g L vs nv dv s2 w') : Stp w O g L vs nv dv s2 w' := ⟨h2.1, h1.2.trans h2.2⟩
theorem RdO.stp (h : RdO w O g L A c vs nv dv s) (hb : Below w.heap.size w w') : Stp w O g L vs nv dv s w' := ⟨⟨_, _, h.keep hb⟩, Chg.of_below hb _⟩
theorem Stp.blk {s' : RS} (h : Stp w O g L vs nv dv s' w') {b : Nat} {T : TypeId} {cs : List Value} (hB : Blk w b T cs) (hO : ¬ O b) : Blk w' b T cs := hB.chg h.2 hO
theorem tok_box {s s' : RS} {w4 : World} {a0 a1 a2 : Value} (h : RdO w O g L A c vs nv dv s) (hs : Stp (w.alloc (.cells #[a0, a1, a2] 70)) O g L vs nv dv s' w4) : w4.cell? ⟨w.heap.size, 0, none⟩ = some a0 ∧ w4.cell? ⟨w.heap.size, 1, none⟩ = some a1 ∧ w4.cell? ⟨w.heap.size, 2, none⟩ = some a2 := by
 have hB : Blk (w.alloc (.cells #[a0, a1, a2] 70)) w.heap.size 70 [a0, a1, a2] := heap_alloc_new w _
 have := hs.blk hB (fun ho => absurd (h.bo.lt _ ho) (Nat.lt_irrefl _))
 exact ⟨Blk.at this 0, Blk.at this 1, Blk.at this 2⟩
set_option maxRecDepth 100000 in
set_option maxHeartbeats 1000000 in
theorem rsign_any (h : RdO w O g L A c vs nv dv s) (x : List UInt8) : Calls Tryz.prog 53 #[.pointer (some ⟨g, 0, none⟩), .string ⟨x.toArray⟩] w fun e w' => e = .returned (.tuple #[]) ∧ Stp w O g L vs nv dv (signP x s) w' := by
 have HT := hid (show Calls Tryz.prog 86 #[.pointer (some ⟨g, 0, none⟩), .int .i64 4, .string ⟨x.toArray⟩] w (fun e w' => e = .returned (.bool (tookP 4 x s).1) ∧ Stp w O g L vs nv dv (tookP 4 x s).2 w') from took_any h 4 x)
 clear h
 by_cases hp : isP 4 x s = true
 ·have ht : tookP 4 x s = (true, passP s) := by unfold tookP; rw [if_pos hp]
  have hs : signP x s = passP s := by unfold signP; rw [if_pos hp]
  rw [ht] at HT
  rw [hs]
  clear ht hs hp
  go_enter Tryz.func53, Tryz.ntmps53
  go_wp2_with (go_at_call 86; (with_reducible refine HT.out.mono ?_); rintro e w3 ⟨rfl, hs3⟩; have HS := hid hs3; clear hs3)
  go_end0
  exact ⟨rfl, HS.out⟩
 ·have ht : tookP 4 x s = (false, s) := by unfold tookP; rw [if_neg hp]
  have hs : signP x s = failP 5 s := by unfold signP; rw [if_neg hp]
  rw [ht] at HT
  rw [hs]
  clear ht hs hp
  have HFa := hid (fun W A c (k : RdO W O g L A c vs nv dv s) => (show Calls Tryz.prog 85 #[.pointer (some ⟨g, 0, none⟩), .int .i64 5] W (fun e w' => e = .returned (.tuple #[]) ∧ Stp W O g L vs nv dv (failP 5 s) w') from fail_any k 5))
  go_enter Tryz.func53, Tryz.ntmps53
  go_wp2_with (first
   | (go_at_call 86; (with_reducible refine HT.out.mono ?_); rintro e w3 ⟨rfl, hs3⟩; have HS := hid hs3; obtain ⟨⟨A3, c3, hr3⟩, -⟩ := hs3; have HR3 := hid hr3; clear hr3)
   | (go_at_call 85; (with_reducible refine (HFa.out _ _ _ HR3.out).mono ?_); rintro e w4 ⟨rfl, hs4⟩; have HS4 := hid (HS.out.trans hs4); clear hs4))
  go_end0
  exact ⟨rfl, HS4.out⟩
set_option maxRecDepth 100000 in
set_option maxHeartbeats 1000000 in
theorem room_any (h : RdO w O g L A c vs nv dv s) (many : Nat) : Calls Tryz.prog 116 #[.pointer (some ⟨g, 0, none⟩), .int .i64 (many : Int)] w fun e w' => e = .returned (.tuple #[]) ∧ Stp w O g L vs nv dv (roomP many s) w' := by
 have HO := hid (show Calls Tryz.prog 55 #[.pointer (some ⟨g, 0, none⟩), .int .i64 2] w (fun e w' => e = .returned (.tuple #[]) ∧ Stp w O g L vs nv dv (oweP 2 s) w') from owe_any h 2)
 have HF := hid h
 clear h
 by_cases hm : many = 64
 ·have hs : roomP many s = oweP 2 s := by unfold roomP; rw [if_pos hm]
  rw [hs]
  subst hm
  clear hs
  go_enter Tryz.func116, Tryz.ntmps116
  go_wp2_with (go_at_call 55; (with_reducible refine HO.out.mono ?_); rintro e w3 ⟨rfl, hs3⟩; have HS := hid hs3; clear hs3)
  go_end0
  exact ⟨rfl, HS.out⟩
 ·have hs : roomP many s = s := by unfold roomP; rw [if_neg hm]
  rw [hs]
  have hm' : ¬ (many : Int) = 64 := by omega
  have hmb : ((many : Int) == 64) = false := by simpa using hm'
  clear hs hm
  go_enter Tryz.func116, Tryz.ntmps116
  go_wp2_with fail
  go_end0
  exact ⟨rfl, HF.out.stp (Below.refl _ _)⟩
set_option maxRecDepth 100000 in
set_option maxHeartbeats 1000000 in
theorem rname_any (h : RdO w O g L A c vs nv dv s) : Calls Tryz.prog 52 #[.pointer (some ⟨g, 0, none⟩)] w fun e w' => e = .returned (.string ⟨(nameP s).1.toArray⟩) ∧ Stp w O g L vs nv dv (nameP s).2 w' := by
 have HF := hid h
 have HN := hid (next_any h)
 have HP := hid (fun W (k : RdO W O g L A c vs nv dv s) => pass_any k)
 have HFa := hid (fun W (k : RdO W O g L A c vs nv dv s) => (show Calls Tryz.prog 85 #[.pointer (some ⟨g, 0, none⟩), .int .i64 5] W (fun e w' => e = .returned (.tuple #[]) ∧ Stp W O g L vs nv dv (failP 5 s) w') from fail_any k 5))
 have hx := h.nx
 have hxl := h.hx
 clear h
 generalize hdT L s.ts.length = t at *
 obtain ⟨k', p', x'⟩ := t
 simp only at hx hxl
 have HW := hid (fun W => word_any x' hxl W)
 have q0 := tok_f0 (k' : Int) (p' : Int) ⟨x'.toArray⟩
 have q2 := tok_f2 (k' : Int) (p' : Int) ⟨x'.toArray⟩
 obtain ⟨P, hP⟩ : ∃ P, P = nameP s := ⟨_, rfl⟩
 have HQ := hid hP
 rw [← hP]
 clear hP hxl
 by_cases h1 : k' = 1
 ·subst h1
  obtain ⟨wd, hwd⟩ : ∃ wd, wd = wordP x' := ⟨_, rfl⟩
  rw [← hwd] at HW
  cases wd
  ·have HE := hid (show nameP s = (x', passP s) from by unfold nameP; rw [hx, if_neg (by simp [← hwd])])
   clear hx hwd
   go_enter Tryz.func52, Tryz.ntmps52
   go_wp2_with (first
    | (go_at_call 51; (with_reducible refine HN.out.mono ?_); rintro e w3 ⟨rfl, hb3⟩; have HF3 := hid (HF.out.keep hb3); have HB3 := hid hb3; clear hb3; unfold tokV; simp only)
    | (go_at_call 11; (with_reducible refine (HW.out _).mono ?_); rintro e w4 ⟨rfl, rfl⟩)
    | (go_at_call 56; (with_reducible refine (HP.out _ (HF3.out.keep (al_below _ _))).mono ?_); rintro e w4 ⟨rfl, hs4⟩; have HS := hid (Stp.after (HB3.out.trans ((al_below _ _).mono HB3.out.size)) hs4); obtain ⟨bx0, bx1, bx2⟩ := tok_box HF3.out hs4; clear hs4))
   go_ret
   rw [HQ.out, HE.out]
   exact ⟨rfl, HS.out⟩
  ·have HE := hid (show nameP s = ([], failP 5 s) from by unfold nameP; rw [hx, if_pos (by simp [← hwd])])
   clear hx hwd
   go_enter Tryz.func52, Tryz.ntmps52
   go_wp2_with (first
    | (go_at_call 51; (with_reducible refine HN.out.mono ?_); rintro e w3 ⟨rfl, hb3⟩; have HF3 := hid (HF.out.keep hb3); have HB3 := hid hb3; clear hb3; unfold tokV; simp only)
    | (go_at_call 11; (with_reducible refine (HW.out _).mono ?_); rintro e w4 ⟨rfl, rfl⟩)
    | (go_at_call 85; (with_reducible refine (HFa.out _ (HF3.out.keep (al_below _ _))).mono ?_); rintro e w4 ⟨rfl, hs4⟩; have HS := hid (Stp.after (HB3.out.trans ((al_below _ _).mono HB3.out.size)) hs4); clear hs4))
   go_ret
   rw [HQ.out, HE.out]
   exact ⟨rfl, HS.out⟩
 ·have h1' : ¬ (k' : Int) = 1 := by omega
  have h1b : ((k' : Int) == 1) = false := by simpa using h1'
  have HE := hid (show nameP s = ([], failP 5 s) from by unfold nameP; rw [hx, if_pos (.inl h1)])
  clear hx h1 HW
  go_enter Tryz.func52, Tryz.ntmps52
  go_wp2_with (first
   | (go_at_call 51; (with_reducible refine HN.out.mono ?_); rintro e w3 ⟨rfl, hb3⟩; have HF3 := hid (HF.out.keep hb3); have HB3 := hid hb3; clear hb3; unfold tokV; simp only)
   | (go_at_call 85; (with_reducible refine (HFa.out _ (HF3.out.keep (al_below _ _))).mono ?_); rintro e w4 ⟨rfl, hs4⟩; have HS := hid (Stp.after (HB3.out.trans ((al_below _ _).mono HB3.out.size)) hs4); clear hs4))
  go_ret
  rw [HQ.out, HE.out]
  exact ⟨rfl, HS.out⟩
set_option maxRecDepth 100000 in
set_option maxHeartbeats 1000000 in
theorem rnum_any (h : RdO w O g L A c vs nv dv s) (low high : Nat) : Calls Tryz.prog 122 #[.pointer (some ⟨g, 0, none⟩), .int .u64 (low : Int), .int .u64 (high : Int)] w fun e w' => e = .returned (.int .u64 ((numP low high s).1 : Int)) ∧ Stp w O g L vs nv dv (numP low high s).2 w' := by
 have HF := hid h
 have HN := hid (next_any h)
 have HP := hid (fun W s A c (k : RdO W O g L A c vs nv dv s) => pass_any k)
 have HFa := hid (fun W (code : Nat) (k : RdO W O g L A c vs nv dv s) => fail_any k code)
 have hx := h.nx
 have hxl := h.hx
 clear h
 generalize hdT L s.ts.length = t at *
 obtain ⟨k', p', x'⟩ := t
 simp only at hx hxl
 have HW := hid (fun W => wparse_any x' hxl W)
 have q0 := tok_f0 (k' : Int) (p' : Int) ⟨x'.toArray⟩
 have q2 := tok_f2 (k' : Int) (p' : Int) ⟨x'.toArray⟩
 obtain ⟨P, hP⟩ : ∃ P, P = numP low high s := ⟨_, rfl⟩
 have HQ := hid hP
 rw [← hP]
 clear hP hxl
 by_cases h1 : k' = 2
 rotate_left
 ·have h1' : ¬ (k' : Int) = 2 := by omega
  have h1b : ((k' : Int) == 2) = false := by simpa using h1'
  have HE := hid (show numP low high s = (0, failP 5 s) from by unfold numP; rw [hx, if_pos h1])
  have HFb := hid (fun W (k : RdO W O g L A c vs nv dv s) => (show Calls Tryz.prog 85 #[.pointer (some ⟨g, 0, none⟩), .int .i64 5] W (fun e w' => e = .returned (.tuple #[]) ∧ Stp W O g L vs nv dv (failP 5 s) w') from fail_any k 5))
  clear hx h1 HW HFa
  go_enter Tryz.func122, Tryz.ntmps122
  go_wp2_with (first
   | (go_at_call 51; (with_reducible refine HN.out.mono ?_); rintro e w3 ⟨rfl, hb3⟩; have HF3 := hid (HF.out.keep hb3); have HB3 := hid hb3; clear hb3; unfold tokV; simp only)
   | (go_at_call 85; (with_reducible refine (HFb.out _ (HF3.out.keep (al_below _ _))).mono ?_); rintro e w4 ⟨rfl, hs4⟩; have HS := hid (Stp.after (HB3.out.trans ((al_below _ _).mono HB3.out.size)) hs4); clear hs4))
  go_ret
  rw [HQ.out, HE.out]
  exact ⟨rfl, HS.out⟩
 ·subst h1
  have HWi := hid (fun W => within_any (parN x').1 low high W)
  have HLt := hid (parN_lt x')
  obtain ⟨n, hn⟩ : ∃ n, n = (parN x').1 := ⟨_, rfl⟩
  obtain ⟨er, her⟩ : ∃ er, er = (parN x').2 := ⟨_, rfl⟩
  rw [← hn] at HWi HLt
  rw [← hn, ← her] at HW
  by_cases he0 : er = 0
  rotate_left
  ·have he0' : ¬ (er : Int) = 0 := by omega
   have heb : ((er : Int) == 0) = false := by simpa using he0'
   have HE := hid (show numP low high s = (n, passP (failP er s)) from by
    have h0 : (parN x').1 = 0 := by
     have h9 : (parN x').2 ≠ 0 := by rw [← her]; exact he0
     unfold parN at h9 ⊢
     split
     ·rfl
     ·rename_i h8
      rw [if_neg h8] at h9
      split
      ·rfl
      ·rename_i h7
       rw [if_neg h7] at h9
       exact absurd rfl h9
    unfold numP
    rw [hx, if_neg (by simp), if_pos (by rw [← her]; exact he0), ← her, hn, h0])
   clear hx he0 hn her
   go_enter Tryz.func122, Tryz.ntmps122
   go_wp2_with (first
    | (go_at_call 51; (with_reducible refine HN.out.mono ?_); rintro e w3 ⟨rfl, hb3⟩; have HF3 := hid (HF.out.keep hb3); have HB3 := hid hb3; clear hb3; unfold tokV; simp only)
    | (go_at_call 39; (with_reducible refine (HW.out _).mono ?_); rintro e w4 ⟨rfl, rfl⟩)
    | (go_at_call 85; (with_reducible refine (HFa.out _ _ (HF3.out.keep (al_below _ _))).mono ?_); rintro e w4 ⟨rfl, hs4⟩; have HS := hid (Stp.after (HB3.out.trans ((al_below _ _).mono HB3.out.size)) hs4); obtain ⟨⟨A4, c4, hr4⟩, -⟩ := hs4; have HR4 := hid hr4; clear hr4)
    | (go_at_call 56; (with_reducible refine (HP.out _ _ _ _ HR4.out).mono ?_); rintro e w5 ⟨rfl, hs5⟩; have HS5 := hid (HS.out.trans hs5); clear hs5))
   go_ret
   rw [HQ.out, HE.out]
   exact ⟨rfl, HS5.out⟩
  ·subst he0
   by_cases hw : low ≤ n ∧ n ≤ high
   ·have hwb : decide (low ≤ n ∧ n ≤ high) = true := decide_eq_true hw
    rw [hwb] at HWi
    have HE := hid (show numP low high s = (n, passP s) from by
     unfold numP
     rw [hx, if_neg (by simp), if_neg (by rw [← her]; simp), if_pos (by rw [← hn]; exact hw), hn])
    clear hx hn her hw hwb
    go_enter Tryz.func122, Tryz.ntmps122
    go_wp2_with (first
     | (go_at_call 51; (with_reducible refine HN.out.mono ?_); rintro e w3 ⟨rfl, hb3⟩; have HF3 := hid (HF.out.keep hb3); have HB3 := hid hb3; clear hb3; unfold tokV; simp only)
     | (go_at_call 39; (with_reducible refine (HW.out _).mono ?_); rintro e w4 ⟨rfl, rfl⟩)
     | (go_at_call 40; (with_reducible refine (HWi.out _).mono ?_); rintro e w4 ⟨rfl, rfl⟩)
     | (go_at_call 56; (with_reducible refine (HP.out _ _ _ _ (HF3.out.keep (al_below _ _))).mono ?_); rintro e w5 ⟨rfl, hs5⟩; have HS5 := hid (Stp.after (HB3.out.trans ((al_below _ _).mono HB3.out.size)) hs5); clear hs5))
    go_ret
    rw [HQ.out, HE.out]
    exact ⟨rfl, HS5.out⟩
   ·have hwb : decide (low ≤ n ∧ n ≤ high) = false := decide_eq_false hw
    rw [hwb] at HWi
    have HE := hid (show numP low high s = (n, passP (failP 1 s)) from by
     unfold numP
     rw [hx, if_neg (by simp), if_neg (by rw [← her]; simp), if_neg (by rw [← hn]; exact hw), hn])
    have HFb := hid (fun W (k : RdO W O g L A c vs nv dv s) => (show Calls Tryz.prog 85 #[.pointer (some ⟨g, 0, none⟩), .int .i64 1] W (fun e w' => e = .returned (.tuple #[]) ∧ Stp W O g L vs nv dv (failP 1 s) w') from fail_any k 1))
    clear hx hn her hw hwb
    go_enter Tryz.func122, Tryz.ntmps122
    go_wp2_with (first
     | (go_at_call 51; (with_reducible refine HN.out.mono ?_); rintro e w3 ⟨rfl, hb3⟩; have HF3 := hid (HF.out.keep hb3); have HB3 := hid hb3; clear hb3; unfold tokV; simp only)
     | (go_at_call 39; (with_reducible refine (HW.out _).mono ?_); rintro e w4 ⟨rfl, rfl⟩)
     | (go_at_call 40; (with_reducible refine (HWi.out _).mono ?_); rintro e w4 ⟨rfl, rfl⟩)
     | (go_at_call 85; (with_reducible refine (HFb.out _ (HF3.out.keep (al_below _ _))).mono ?_); rintro e w4 ⟨rfl, hs4⟩; have HS := hid (Stp.after (HB3.out.trans ((al_below _ _).mono HB3.out.size)) hs4); obtain ⟨⟨A4, c4, hr4⟩, -⟩ := hs4; have HR4 := hid hr4; clear hr4)
     | (go_at_call 56; (with_reducible refine (HP.out _ _ _ _ HR4.out).mono ?_); rintro e w5 ⟨rfl, hs5⟩; have HS5 := hid (HS.out.trans hs5); clear hs5))
    go_ret
    rw [HQ.out, HE.out]
    exact ⟨rfl, HS5.out⟩
end Go.Proofs.YtfcccfplmdjndaaGreat

/- parse: what is left only grows less. -/
namespace Go.Proofs.YtfcccfplmdjndaaGreat
set_option linter.unusedSimpArgs false
set_option linter.unusedVariables false

def Fi (s s' : RS) : Prop := (s'.fc = s.fc ∧ s'.fi = s.fi) ∨ (s'.fc ≠ 0 → 0 < s'.fi ∧ s'.fi ≤ s.ts.length)
def Suf (s s' : RS) : Prop := ∃ j, j < s.ts.length ∧ s'.ts = s.ts.drop j ∧ Fi s s'
theorem Suf.refl {s : RS} (h : 0 < s.ts.length) : Suf s s := ⟨0, h, rfl, .inl ⟨rfl, rfl⟩⟩
theorem Suf.same {s s' : RS} (h : 0 < s.ts.length) (e : s'.ts = s.ts) (e2 : s'.fc = s.fc) (e3 : s'.fi = s.fi) : Suf s s' := ⟨0, h, e, .inl ⟨e2, e3⟩⟩
theorem Suf.le {s s' : RS} (h : Suf s s') : s'.ts.length ≤ s.ts.length := by obtain ⟨j, hj, e, _⟩ := h; rw [e, List.length_drop]; omega
theorem Suf.pos {s s' : RS} (h : Suf s s') : 0 < s'.ts.length := by obtain ⟨j, hj, e, _⟩ := h; rw [e, List.length_drop]; omega
theorem Suf.trans {a b c : RS} (h : Suf a b) (k : Suf b c) : Suf a c := by
 obtain ⟨j, hj, e, h1⟩ := h
 obtain ⟨i, hi, f, k1⟩ := k
 have hl : b.ts.length = a.ts.length - j := by rw [e, List.length_drop]
 refine ⟨j + i, by omega, by rw [f, e, List.drop_drop], ?_⟩
 rcases k1 with ⟨k1, k2⟩ | k1
 ·rcases h1 with ⟨h1, h2⟩ | h1
  ·exact .inl ⟨k1.trans h1, k2.trans h2⟩
  ·refine .inr fun hc => ?_
   rw [k1] at hc
   rw [k2]
   exact h1 hc
 ·refine .inr fun hc => ?_
  have := k1 hc
  omega
variable {s : RS}
theorem suf_fail (h : 0 < s.ts.length) (c : Nat) : Suf s (failP c s) := by
 refine ⟨s.ts.length - 1, by omega, rfl, ?_⟩
 by_cases h0 : s.fc = 0
 ·refine .inr fun _ => ?_
  show 0 < (if s.fc = 0 then s.ts.length else s.fi) ∧ (if s.fc = 0 then s.ts.length else s.fi) ≤ s.ts.length
  rw [if_pos h0]
  omega
 ·exact .inl ⟨if_neg h0, if_neg h0⟩
theorem suf_owe (h : 0 < s.ts.length) (c : Nat) : Suf s (oweP c s) := ⟨0, h, rfl, .inl ⟨rfl, rfl⟩⟩
theorem suf_pass (h : 0 < s.ts.length) : Suf s (passP s) := by
 unfold passP
 split
 ·exact suf_fail h _
 ·split
  ·exact ⟨1, by assumption, rfl, .inl ⟨rfl, rfl⟩⟩
  ·exact .refl h
theorem suf_took (h : 0 < s.ts.length) (k : Nat) (x : List UInt8) : Suf s (tookP k x s).2 := by
 unfold tookP
 split
 ·exact suf_pass h
 ·exact .refl h
theorem suf_sign (h : 0 < s.ts.length) (x : List UInt8) : Suf s (signP x s) := by
 unfold signP
 split
 ·exact suf_pass h
 ·exact suf_fail h _
theorem suf_name (h : 0 < s.ts.length) : Suf s (nameP s).2 := by
 unfold nameP
 split
 ·exact suf_fail h _
 ·exact suf_pass h
theorem suf_num (h : 0 < s.ts.length) (a b : Nat) : Suf s (numP a b s).2 := by
 unfold numP
 split
 ·exact suf_fail h _
 ·split
  ·exact (suf_fail h _).trans (suf_pass (suf_fail h _).pos)
  ·split
   ·exact suf_pass h
   ·exact (suf_fail h _).trans (suf_pass (suf_fail h _).pos)
theorem suf_room (h : 0 < s.ts.length) (m : Nat) : Suf s (roomP m s) := by
 unfold roomP
 split
 ·exact suf_owe h _
 ·exact .refl h
theorem suf_ranged (h : 0 < s.ts.length) (n : NT) : Suf s (rangedP n s).2 := by
 unfold rangedP
 split
 ·have h1 := suf_num h 0 uMax
  have h2 := h1.trans (suf_sign h1.pos [46, 46])
  exact h2.trans (suf_num h2.pos _ _)
 ·exact .refl h
theorem suf_reckB (h : 0 < s.ts.length) (m : Nat) : Suf s (reckB m s).2 := by
 unfold reckB
 have h1 := suf_name h
 have h2 := h1.trans (suf_took h1.pos 4 [43])
 simp only
 split
 ·exact h2.trans (suf_num h2.pos _ _)
 ·exact h2
theorem suf_reck (h : 0 < s.ts.length) : Suf s (reckP s).2 := by
 unfold reckP
 split
 ·have h1 := suf_num h 0 uMax
  have h2 := h1.trans (suf_took h1.pos 4 [42])
  simp only
  split
  ·split
   ·have h3 := h2.trans (suf_owe h2.pos 1)
    exact h3.trans (suf_reckB h3.pos _)
   ·exact h2.trans (suf_reckB h2.pos _)
  ·exact h2
 ·exact suf_reckB h 1
theorem suf_often (h : 0 < s.ts.length) : Suf s (oftenP s).2 := by
 unfold oftenP
 have h1 := suf_sign h [91]
 have h2 := h1.trans (suf_reck h1.pos)
 exact h2.trans (suf_sign h2.pos [93])
section
variable {K : RS → Int × RS} (hK : ∀ s : RS, 0 < s.ts.length → Suf s (K s).2)
include hK
theorem suf_told (h : 0 < s.ts.length) : Suf s (toldP K s).2 := by
 have h1 := suf_sign h [58]
 have h2 := h1.trans (hK _ h1.pos)
 exact h2.trans (suf_sign h2.pos [59])
omit hK in
theorem suf_derive (h : 0 < s.ts.length) : Suf s (deriveP s).2 := by
 unfold deriveP
 simp only
 have hd : Suf s (if (tookP 1 s_size s).1 = true then ((1 : Int), (tookP 1 s_size s).2) else if (tookP 1 s_count s).1 = true then (2, (tookP 1 s_count s).2) else if (tookP 1 s_crc s).1 = true then (3, (tookP 1 s_crc s).2) else (0, failP 5 s)).2 := by
  split
  ·exact suf_took h _ _
  ·split
   ·exact suf_took h _ _
   ·split
    ·exact suf_took h _ _
    ·exact suf_fail h _
 generalize (if (tookP 1 s_size s).1 = true then ((1 : Int), (tookP 1 s_size s).2) else if (tookP 1 s_count s).1 = true then (2, (tookP 1 s_count s).2) else if (tookP 1 s_crc s).1 = true then (3, (tookP 1 s_crc s).2) else (0, failP 5 s)) = d at *
 have h1 := hd.trans (suf_sign hd.pos [40])
 have h2 := h1.trans (suf_name h1.pos)
 split
 ·have h3 := h2.trans (suf_sign h2.pos [46, 46])
  have h4 := h3.trans (suf_name h3.pos)
  exact h4.trans (suf_sign h4.pos [41])
 ·exact h2.trans (suf_sign h2.pos [41])
theorem suf_field (h : 0 < s.ts.length) : Suf s (fieldP K s).2 := by
 unfold fieldP
 simp only
 have h1 := suf_name h
 have h2 := h1.trans (suf_sign h1.pos [58])
 have h3 := h2.trans (hK _ h2.pos)
 have h4 := h3.trans (suf_took h3.pos 4 [61])
 split
 ·have h5 := h4.trans (suf_derive h4.pos)
  exact h5.trans (suf_sign h5.pos [59])
 ·exact h4.trans (suf_sign h4.pos [59])
theorem suf_fields : ∀ (m : Nat) (fs : List FT) (s : RS), 0 < s.ts.length → Suf s (fieldsP K m fs s).2
 | 0, fs, s, h => .refl h
 | m + 1, fs, s, h => by
  unfold fieldsP
  have h1 := suf_room h fs.length
  have h2 := h1.trans (suf_field hK h1.pos)
  simp only
  split
  ·exact h2.trans (suf_fields m _ _ h2.pos)
  ·exact h2
theorem suf_record (h : 0 < s.ts.length) : Suf s (recordP K s).2 := by
 have h1 := suf_fields hK s.ts.length [] s h
 exact h1.trans (suf_sign h1.pos [125])
theorem suf_cases : ∀ (m : Nat) (cs : List CT) (s : RS), 0 < s.ts.length → Suf s (casesP K m cs s).2
 | 0, cs, s, h => .refl h
 | m + 1, cs, s, h => by
  unfold casesP
  have h1 := suf_room h cs.length
  have h2 := h1.trans (suf_num h1.pos 0 uMax)
  have h3 := h2.trans (suf_told hK h2.pos)
  simp only
  split
  ·exact h3.trans (suf_cases m _ _ h3.pos)
  ·exact h3
theorem suf_choose (h : 0 < s.ts.length) : Suf s (chooseP K s).2 := by
 unfold chooseP
 simp only
 have h1 := suf_name h
 have h2 := h1.trans (suf_took h1.pos 4 [37])
 have h3 : Suf s (if (tookP 4 [37] (nameP s).2).1 = true then numP 1 uMax (tookP 4 [37] (nameP s).2).2 else (0, (tookP 4 [37] (nameP s).2).2)).2 := by
  split
  ·exact h2.trans (suf_num h2.pos _ _)
  ·exact h2
 generalize (if (tookP 4 [37] (nameP s).2).1 = true then numP 1 uMax (tookP 4 [37] (nameP s).2).2 else (0, (tookP 4 [37] (nameP s).2).2)) = c at *
 have h4 := h3.trans (suf_sign h3.pos [123])
 have h5 := h4.trans (suf_cases hK (signP [123] c.2).ts.length [] _ h4.pos)
 have h6 := h5.trans (suf_took h5.pos 1 s_else)
 split
 ·have h7 := h6.trans (suf_told hK h6.pos)
  exact h7.trans (suf_sign h7.pos [125])
 ·exact h6.trans (suf_sign h6.pos [125])
theorem suf_kids (chain : Bool) : ∀ (m : Nat) (ls : List Bool) (ks : List Int) (s : RS), 0 < s.ts.length → Suf s (kidsP K chain m ls ks s).2
 | 0, ls, ks, s, h => .refl h
 | m + 1, ls, ks, s, h => by
  unfold kidsP
  simp only
  have h1 := suf_room h ks.length
  have h2 : Suf s (if chain = true then (ls ++ [(tookP 1 s_last (roomP ks.length s)).1], (tookP 1 s_last (roomP ks.length s)).2) else (ls, roomP ks.length s)).2 := by
   split
   ·exact h1.trans (suf_took h1.pos _ _)
   ·exact h1
  generalize (if chain = true then (ls ++ [(tookP 1 s_last (roomP ks.length s)).1], (tookP 1 s_last (roomP ks.length s)).2) else (ls, roomP ks.length s)) = b at *
  have h3 := h2.trans (hK _ h2.pos)
  have h4 := h3.trans (suf_took h3.pos 4 [124])
  split
  ·exact h4.trans (suf_kids chain m _ _ _ h4.pos)
  ·exact h4
theorem suf_among (chain : Bool) (h : 0 < s.ts.length) : Suf s (amongP K chain s).2 := by
 have h1 := suf_sign h [123]
 have h2 := h1.trans (suf_kids hK chain (signP [123] s).ts.length [] [] _ h1.pos)
 exact h2.trans (suf_sign h2.pos [125])
theorem suf_named (h : 0 < s.ts.length) (x : List UInt8) : Suf s (namedP K x s).2 := by
 unfold namedP
 split
 ·exact suf_ranged h _
 ·have ho := suf_often h
  split
  ·have h1 := suf_took h 1 s_lenient
   exact h1.trans (suf_ranged h1.pos _)
  ·split
   ·exact ho
   ·split
    ·exact ho.trans (hK _ ho.pos)
    ·split
     ·exact ho.trans (hK _ ho.pos)
     ·split
      ·exact hK s h
      ·split
       ·exact suf_choose hK h
       ·split
        ·exact suf_among hK false h
        ·split
         ·exact suf_among hK true h
         ·split <;> exact .refl h
theorem suf_node (h : 0 < s.ts.length) : Suf s (nodeP K s).2 := by
 unfold nodeP
 have hp := suf_pass h
 split
 ·exact hp
 ·split
  ·exact hp.trans (suf_named hK hp.pos _)
  ·split
   ·exact hp.trans (suf_record hK hp.pos)
   ·exact suf_fail h _
theorem suf_kindG (h : 0 < s.ts.length) (deep : Nat) : Suf s (kindG K deep s).2 := by
 unfold kindG
 simp only
 have h1 : Suf s (if 24 < deep then oweP 6 s else s) := by
  split
  ·exact suf_owe h _
  ·exact .refl h
 generalize (if 24 < deep then oweP 6 s else s) = s1 at *
 have h2 := h1.trans (suf_node hK h1.pos)
 split
 ·exact h2.trans (suf_owe h2.pos _)
 ·exact h2.trans (.same h2.pos rfl rfl rfl)
end
theorem suf_kind : ∀ (n deep : Nat) (s : RS), 0 < s.ts.length → Suf s (kindP n deep s).2
 | 0, deep, s, h => suf_fail h 5
 | n + 1, deep, s, h => suf_kindG (suf_kind n (deep + 1)) h deep
theorem suf_nameA (h : 0 < s.ts.length) (nm : List UInt8) (k : Int) : Suf s (nameA nm k s) := by
 unfold nameA
 split
 ·exact suf_owe h _
 ·exact .same h rfl rfl rfl
theorem suf_def (n : Nat) (h : 0 < s.ts.length) : Suf s (defP n s) := by
 have h1 := suf_name h
 have h2 := h1.trans (suf_sign h1.pos [61])
 have h3 := h2.trans (suf_kind n 0 _ h2.pos)
 have h4 := h3.trans (suf_sign h3.pos [59])
 exact h4.trans (suf_nameA h4.pos _ _)

def EndS (s : RS) : Prop := ∃ l t, s.ts = l ++ [t] ∧ t.1 = 5
theorem EndS.suf {s s' : RS} (h : EndS s) (k : Suf s s') : EndS s' := by
 obtain ⟨l, t, e, h5⟩ := h
 obtain ⟨j, hj, f, _⟩ := k
 rw [e, List.length_append, List.length_singleton] at hj
 exact ⟨l.drop j, t, by rw [f, e, List.drop_append_of_le_length (by omega)], h5⟩
theorem EndS.one {s : RS} (h : EndS s) (h1 : s.ts.length = 1) : (nxt s).1 = 5 := by
 obtain ⟨l, t, e, h5⟩ := h
 rw [e, List.length_append, List.length_singleton] at h1
 have hl : l = [] := List.eq_nil_of_length_eq_zero (by omega)
 rw [hl] at e
 unfold nxt
 rw [e]
 exact h5
theorem EndS.pos {s : RS} (h : EndS s) : 0 < s.ts.length := by
 obtain ⟨l, t, e, h5⟩ := h
 rw [e]
 simp
theorem EndS.two {s : RS} (h : EndS s) (hn : (nxt s).1 ≠ 5) : 1 < s.ts.length := by
 have := h.pos
 rcases Nat.lt_or_ge 1 s.ts.length with h1 | h1
 ·exact h1
 ·exact absurd (h.one (by omega)) hn
theorem pass_less {s : RS} (h : 1 < s.ts.length) : (passP s).ts.length < s.ts.length := by
 unfold passP
 split
 ·show (s.ts.drop _).length < _
  rw [List.length_drop]
  omega
 ·show (s.ts.drop 1).length < _
  rw [List.length_drop]
  omega
def Dec (s s' : RS) : Prop := s'.ts.length = 1 ∨ s'.ts.length < s.ts.length
theorem fail_one {s : RS} (h : 0 < s.ts.length) (c : Nat) : (failP c s).ts.length = 1 := by
 show (s.ts.drop _).length = 1
 rw [List.length_drop]
 omega
theorem dec_pass {s : RS} (h : 0 < s.ts.length) : Dec s (passP s) := by
 rcases Nat.lt_or_ge 1 s.ts.length with h1 | h1
 ·exact .inr (pass_less h1)
 ·exact .inl (by have := (suf_pass h).le; have := (suf_pass h).pos; omega)
theorem dec_name {s : RS} (h : 0 < s.ts.length) : Dec s (nameP s).2 := by
 unfold nameP
 split
 ·exact .inl (fail_one h _)
 ·exact dec_pass h
theorem dec_num {s : RS} (h : 0 < s.ts.length) (a b : Nat) : Dec s (numP a b s).2 := by
 have hf : ∀ c, (passP (failP c s)).ts.length = 1 := fun c => by
  have h1 := fail_one h c
  have h2 := suf_pass (s := failP c s) (by omega)
  have := h2.le
  have := h2.pos
  omega
 unfold numP
 split
 ·exact .inl (fail_one h _)
 ·split
  ·exact .inl (hf _)
  ·split
   ·exact dec_pass h
   ·exact .inl (hf _)
theorem Dec.suf {a b c : RS} (h : Dec a b) (k : Suf b c) : Dec a c := by
 have := k.le
 have := k.pos
 rcases h with h | h
 ·exact .inl (by omega)
 ·exact .inr (by omega)
theorem Dec.of {a b c : RS} (k : Suf a b) (h : Dec b c) : Dec a c := by
 have := k.le
 rcases h with h | h
 ·exact .inl h
 ·exact .inr (by omega)
theorem Dec.less {s s' : RS} (h : Dec s s') (he : EndS s') (hn : (nxt s').1 ≠ 5) : s'.ts.length < s.ts.length := by
 have := he.two hn
 rcases h with h | h
 ·omega
 ·exact h
theorem dec_field {s : RS} {K : RS → Int × RS} (hK : ∀ s : RS, 0 < s.ts.length → Suf s (K s).2) (h : 0 < s.ts.length) : Dec s (fieldP K s).2 := by
 unfold fieldP
 simp only
 have h0 := dec_name h
 have h1 := suf_name h
 have h2 := suf_sign h1.pos [58]
 have h3 := h2.trans (hK _ h2.pos)
 have h4 := h3.trans (suf_took h3.pos 4 [61])
 split
 ·have h5 := h4.trans (suf_derive h4.pos)
  exact h0.suf (h5.trans (suf_sign h5.pos [59]))
 ·exact h0.suf (h4.trans (suf_sign h4.pos [59]))
theorem dec_case {s : RS} {K : RS → Int × RS} (hK : ∀ s : RS, 0 < s.ts.length → Suf s (K s).2) (h : 0 < s.ts.length) : Dec s (toldP K (numP 0 uMax s).2).2 :=
 (dec_num h 0 uMax).suf (suf_told hK (suf_num h 0 uMax).pos)
theorem room_len (m : Nat) (s : RS) : (roomP m s).ts = s.ts := by
 unfold roomP
 split <;> rfl
theorem took_less {s : RS} (he : EndS s) {k : Nat} {x : List UInt8} (hk : k ≠ 5) (h : (tookP k x s).1 = true) : (tookP k x s).2.ts.length < s.ts.length := by
 unfold tookP at h ⊢
 by_cases hp : isP k x s = true
 ·rw [if_pos hp]
  refine pass_less (he.two ?_)
  unfold isP at hp
  have := of_decide_eq_true hp
  rw [this]
  exact hk
 ·rw [if_neg hp] at h
  cases h
end Go.Proofs.YtfcccfplmdjndaaGreat

/- parse: a step of whatever kind; what lies apart from the reader stays. -/
namespace Go.Proofs.YtfcccfplmdjndaaGreat
set_option linter.unusedSimpArgs false
set_option linter.unusedVariables false
open Go.RowKit

def RdX (w : World) (O : Nat → Prop) (g : Nat) (L : List Tk) (s : RS) : Prop := ∃ A c vs nv dv, RdO w O g L A c vs nv dv s
def StG (w : World) (O : Nat → Prop) (g : Nat) (L : List Tk) (s' : RS) (w' : World) : Prop := ∃ O' : Nat → Prop, RdX w' O' g L s' ∧ Chg w w' O ∧ ∀ b, O' b → O b ∨ w.heap.size ≤ b
variable {w w' w0 : World} {O O0 : Nat → Prop} {g : Nat} {L : List Tk} {s s' : RS}
theorem Stp.gg {vs : List NV} {nv dv : Value} (h : Stp w O g L vs nv dv s' w') : StG w O g L s' w' := by
 obtain ⟨⟨A, c, hr⟩, hc⟩ := h
 exact ⟨O, ⟨A, c, vs, nv, dv, hr⟩, hc, fun b hb => .inl hb⟩
theorem RdX.pos (h : RdX w O g L s) : 0 < s.ts.length := by obtain ⟨_, _, _, _, _, h⟩ := h; exact h.pos
theorem RdX.lt (h : RdX w O g L s) : ∀ b, O b → b < w.heap.size := by obtain ⟨_, _, _, _, _, h⟩ := h; exact h.bo.lt
theorem RdX.keep (h : RdX w O g L s) (hb : Below w.heap.size w w') : RdX w' O g L s := by obtain ⟨A, c, vs, nv, dv, h⟩ := h; exact ⟨A, c, vs, nv, dv, h.keep hb⟩
theorem RdX.chg {S : Nat → Prop} (h : RdX w O g L s) (hc : Chg w w' S) (hS : ∀ b, O b → ¬ S b) : RdX w' O g L s := by obtain ⟨A, c, vs, nv, dv, h⟩ := h; exact ⟨A, c, vs, nv, dv, h.chg hc hS⟩
theorem RdX.le (h : RdX w O g L s) : s.ts.length ≤ 65536 := by obtain ⟨_, _, _, _, _, h⟩ := h; exact Nat.le_trans h.le h.big
theorem sign_g (h : RdX w O g L s) (x : List UInt8) : Calls Tryz.prog 53 #[.pointer (some ⟨g, 0, none⟩), .string ⟨x.toArray⟩] w fun e w' => e = .returned (.tuple #[]) ∧ StG w O g L (signP x s) w' := by
 obtain ⟨A, c, vs, nv, dv, h⟩ := h
 exact (rsign_any h x).mono fun e w' hh => ⟨hh.1, Stp.gg hh.2⟩
theorem took_g (h : RdX w O g L s) (k : Nat) (x : List UInt8) : Calls Tryz.prog 86 #[.pointer (some ⟨g, 0, none⟩), .int .i64 (k : Int), .string ⟨x.toArray⟩] w fun e w' => e = .returned (.bool (tookP k x s).1) ∧ StG w O g L (tookP k x s).2 w' := by
 obtain ⟨A, c, vs, nv, dv, h⟩ := h
 exact (took_any h k x).mono fun e w' hh => ⟨hh.1, Stp.gg hh.2⟩
theorem name_g (h : RdX w O g L s) : Calls Tryz.prog 52 #[.pointer (some ⟨g, 0, none⟩)] w fun e w' => e = .returned (.string ⟨(nameP s).1.toArray⟩) ∧ StG w O g L (nameP s).2 w' := by
 obtain ⟨A, c, vs, nv, dv, h⟩ := h
 exact (rname_any h).mono fun e w' hh => ⟨hh.1, Stp.gg hh.2⟩
theorem num_g (h : RdX w O g L s) (low high : Nat) : Calls Tryz.prog 122 #[.pointer (some ⟨g, 0, none⟩), .int .u64 (low : Int), .int .u64 (high : Int)] w fun e w' => e = .returned (.int .u64 ((numP low high s).1 : Int)) ∧ StG w O g L (numP low high s).2 w' := by
 obtain ⟨A, c, vs, nv, dv, h⟩ := h
 exact (rnum_any h low high).mono fun e w' hh => ⟨hh.1, Stp.gg hh.2⟩
theorem room_g (h : RdX w O g L s) (many : Nat) : Calls Tryz.prog 116 #[.pointer (some ⟨g, 0, none⟩), .int .i64 (many : Int)] w fun e w' => e = .returned (.tuple #[]) ∧ StG w O g L (roomP many s) w' := by
 obtain ⟨A, c, vs, nv, dv, h⟩ := h
 exact (room_any h many).mono fun e w' hh => ⟨hh.1, Stp.gg hh.2⟩
theorem owe_g (h : RdX w O g L s) (code : Nat) : Calls Tryz.prog 55 #[.pointer (some ⟨g, 0, none⟩), .int .i64 (code : Int)] w fun e w' => e = .returned (.tuple #[]) ∧ StG w O g L (oweP code s) w' := by
 obtain ⟨A, c, vs, nv, dv, h⟩ := h
 exact (owe_any h code).mono fun e w' hh => ⟨hh.1, Stp.gg hh.2⟩
theorem fail_g (h : RdX w O g L s) (code : Nat) : Calls Tryz.prog 85 #[.pointer (some ⟨g, 0, none⟩), .int .i64 (code : Int)] w fun e w' => e = .returned (.tuple #[]) ∧ StG w O g L (failP code s) w' := by
 obtain ⟨A, c, vs, nv, dv, h⟩ := h
 exact (fail_any h code).mono fun e w' hh => ⟨hh.1, Stp.gg hh.2⟩
theorem pass_g (h : RdX w O g L s) : Calls Tryz.prog 56 #[.pointer (some ⟨g, 0, none⟩)] w fun e w' => e = .returned (.tuple #[]) ∧ StG w O g L (passP s) w' := by
 obtain ⟨A, c, vs, nv, dv, h⟩ := h
 exact (pass_any h).mono fun e w' hh => ⟨hh.1, Stp.gg hh.2⟩
theorem next_g (h : RdX w O g L s) : ∃ p : Nat, Calls Tryz.prog 51 #[.pointer (some ⟨g, 0, none⟩)] w fun e w' => e = .returned (.agg #[.int .i64 ((nxt s).1 : Int), .int .i64 (p : Int), .string ⟨(nxt s).2.toArray⟩]) ∧ StG w O g L s w' := by
 obtain ⟨A, c, vs, nv, dv, h⟩ := h
 refine ⟨(hdT L s.ts.length).p, (next_any h).mono ?_⟩
 rintro e w' ⟨rfl, hb⟩
 rw [h.nx]
 exact ⟨rfl, Stp.gg (h.stp hb)⟩
structure At (w0 : World) (O0 : Nat → Prop) (g : Nat) (L : List Tk) (w : World) (O : Nat → Prop) (s : RS) : Prop where
 rd : RdX w O g L s
 ch : Chg w0 w O0
 gr : ∀ b, O b → O0 b ∨ w0.heap.size ≤ b
theorem At.start (h : RdX w O g L s) : At w O g L w O s := ⟨h, Chg.refl _ _, fun _ hb => .inl hb⟩
theorem At.call (h : At w0 O0 g L w O s) (k : StG w O g L s' w') : ∃ O', At w0 O0 g L w' O' s' ∧ ∀ b T cs, Blk w b T cs → ¬ O b → Blk w' b T cs ∧ ¬ O' b := by
 obtain ⟨O', hr, hc, hg⟩ := k
 refine ⟨O', ⟨hr, ?_, fun b hb => ?_⟩, fun b T cs hB hO => ⟨hB.chg hc hO, fun ho => ?_⟩⟩
 ·have h1 : Chg w w' (fun k => O0 k ∨ w0.heap.size ≤ k) := hc.more (fun k _ hk => h.gr k hk)
  have h2 : Chg w0 w (fun k => O0 k ∨ w0.heap.size ≤ k) := h.ch.more (fun k _ hk => .inl hk)
  refine (h2.trans h1).more (fun k hk ho => ?_)
  rcases ho with ho | ho
  ·exact ho
  ·omega
 ·rcases hg b hb with ho | ho
  ·exact h.gr b ho
  ·exact .inr (Nat.le_trans h.ch.size ho)
 ·rcases hg b ho with ho | ho
  ·exact hO ho
  ·exact absurd hB.lt (by omega)
theorem At.below (h : At w0 O0 g L w O s) (hb : Below w.heap.size w w') : At w0 O0 g L w' O s :=
 ⟨h.rd.keep hb, h.ch.trans (Chg.of_below hb _), h.gr⟩
theorem At.other {S : Nat → Prop} (h : At w0 O0 g L w O s) (hc : Chg w w' S) (hS : ∀ b, S b → w0.heap.size ≤ b ∧ ¬ O b) : At w0 O0 g L w' O s := by
 refine ⟨h.rd.chg hc (fun b ho hs => (hS b hs).2 ho), ?_, h.gr⟩
 have h1 : Chg w w' (fun k => O0 k ∨ w0.heap.size ≤ k) := hc.more (fun k _ hk => .inr (hS k hk).1)
 have h2 : Chg w0 w (fun k => O0 k ∨ w0.heap.size ≤ k) := h.ch.more (fun k _ hk => .inl hk)
 refine (h2.trans h1).more (fun k hk ho => ?_)
 rcases ho with ho | ho
 ·exact ho
 ·omega
theorem At.set (h : At w0 O0 g L w O s) (b i : Nat) (hb : w0.heap.size ≤ b) (hO : ¬ O b) (u : Value) : At w0 O0 g L (w.setCell ⟨b, i, none⟩ u) O s :=
 h.other ((Chg.refl w (fun k => k = b)).set b i rfl u) (fun k hk => by rw [hk]; exact ⟨hb, hO⟩)
theorem At.row (h : At w0 O0 g L w O s) (b : Nat) (hb : w0.heap.size ≤ b) (hO : ¬ O b) (cs : Array Value) : At w0 O0 g L (w.setRow b cs) O s :=
 h.other (S := fun k => k = b) ⟨rfl, rfl, rfl, by rw [setRow_size]; exact Nat.le_refl _, fun k _ hn => setRow_other w b k cs hn⟩ (fun k hk => by rw [hk]; exact ⟨hb, hO⟩)
theorem At.stg (h : At w0 O0 g L w O s) : StG w0 O0 g L s w := ⟨O, h.rd, h.ch, h.gr⟩
theorem At.new (h : At w0 O0 g L w O s) : ¬ O w.heap.size := fun ho => absurd (h.rd.lt _ ho) (Nat.lt_irrefl _)
theorem At.size (h : At w0 O0 g L w O s) : w0.heap.size ≤ w.heap.size := h.ch.size
structure Bx (w0 w : World) (O : Nat → Prop) (b : Nat) (T : TypeId) (cs : List Value) : Prop where
 blk : Blk w b T cs
 no : ¬ O b
 ge : w0.heap.size ≤ b
theorem Bx.alloc {b : Nat} {T : TypeId} {cs : List Value} (h : Bx w0 w O b T cs) (o : Obj) : Bx w0 (w.alloc o) O b T cs := ⟨h.blk.alloc o, h.no, h.ge⟩
theorem At.box (h : At w0 O0 g L w O s) (T : TypeId) (cs : List Value) : Bx w0 (w.alloc (.cells cs.toArray T)) O w.heap.size T cs := ⟨heap_alloc_new w _, h.new, h.size⟩
theorem At.alloc (h : At w0 O0 g L w O s) (o : Obj) : At w0 O0 g L (w.alloc o) O s := h.below (al_below _ _)
theorem Bx.put {b : Nat} {T : TypeId} {cs : List Value} (h : Bx w0 w O b T cs) (i : Nat) (u : Value) : Bx w0 (w.setCell ⟨b, i, none⟩ u) O b T (cs.set i u) := ⟨h.blk.put i u, h.no, h.ge⟩
theorem Bx.other {b b' : Nat} {T : TypeId} {cs : List Value} (h : Bx w0 w O b T cs) (hne : b ≠ b') (i : Nat) (u : Value) : Bx w0 (w.setCell ⟨b', i, none⟩ u) O b T cs := ⟨h.blk.other hne u, h.no, h.ge⟩
theorem Bx.row {b : Nat} {T : TypeId} {cs cs' : List Value} (h : Bx w0 w O b T cs) : Bx w0 (w.setRow b cs'.toArray) O b T cs' := ⟨setRow_heap _ _ _ _ _ _ h.blk, h.no, h.ge⟩
theorem Bx.orow {b b' : Nat} {T : TypeId} {cs : List Value} (h : Bx w0 w O b T cs) (hne : b ≠ b') (r : Array Value) : Bx w0 (w.setRow b' r) O b T cs := ⟨(setRow_other w b' b r hne).trans h.blk, h.no, h.ge⟩
theorem Bx.call {O' : Nat → Prop} {b : Nat} {T : TypeId} {cs : List Value} (h : Bx w0 w O b T cs) (hk : ∀ b T cs, Blk w b T cs → ¬ O b → Blk w' b T cs ∧ ¬ O' b) : Bx w0 w' O' b T cs := ⟨(hk b T cs h.blk h.no).1, (hk b T cs h.blk h.no).2, h.ge⟩
theorem At.bset {b : Nat} {T : TypeId} {cs : List Value} (h : At w0 O0 g L w O s) (k : Bx w0 w O b T cs) (i : Nat) (u : Value) : At w0 O0 g L (w.setCell ⟨b, i, none⟩ u) O s := h.set b i k.ge k.no u
theorem At.brow {b : Nat} {T : TypeId} {cs : List Value} (h : At w0 O0 g L w O s) (k : Bx w0 w O b T cs) (r : Array Value) : At w0 O0 g L (w.setRow b r) O s := h.row b k.ge k.no r
theorem Bx.at {b : Nat} {T : TypeId} {cs : List Value} (h : Bx w0 w O b T cs) (i : Nat) : w.cell? ⟨b, i, none⟩ = cs[i]? := Blk.at h.blk i
theorem Bx.free {b : Nat} {T : TypeId} {cs : List Value} (h : Bx w0 w O b T cs) (i : Nat) : w.frozen? ⟨b, i, none⟩ = false := Blk.free h.blk i
end Go.Proofs.YtfcccfplmdjndaaGreat
namespace Go.Proofs.YtfcccfplmdjndaaGreat
set_option linter.unusedSimpArgs false
set_option linter.unusedVariables false
open Go.RowKit
variable {w w' w0 : World} {O O0 : Nat → Prop} {g : Nat} {L : List Tk} {s s' : RS}
theorem At.one (h : At w0 O0 g L w O s) (T1 : TypeId) (c1 : List Value) (a1 : Array Value) (h1 : a1 = c1.toArray) : At w0 O0 g L (w.alloc (.cells a1 T1)) O s ∧ Bx w0 (w.alloc (.cells a1 T1)) O w.heap.size T1 c1 := by
 subst h1
 exact ⟨h.alloc _, h.box T1 c1⟩
theorem At.two (h : At w0 O0 g L w O s) (T1 : TypeId) (c1 : List Value) (a1 : Array Value) (h1 : a1 = c1.toArray) (T2 : TypeId) (c2 : List Value) (a2 : Array Value) (h2 : a2 = c2.toArray) : At w0 O0 g L ((w.alloc (.cells a1 T1)).alloc (.cells a2 T2)) O s ∧ Bx w0 ((w.alloc (.cells a1 T1)).alloc (.cells a2 T2)) O w.heap.size T1 c1 ∧ Bx w0 ((w.alloc (.cells a1 T1)).alloc (.cells a2 T2)) O (w.heap.size + 1) T2 c2 := by
 obtain ⟨ha, hb⟩ := h.one T1 c1 a1 h1
 obtain ⟨hc, hd⟩ := ha.one T2 c2 a2 h2
 have e : (w.alloc (.cells a1 T1)).heap.size = w.heap.size + 1 := by simp
 rw [e] at hd
 exact ⟨hc, hb.alloc _, hd⟩
theorem Bx.keep {b : Nat} {T : TypeId} {cs : List Value} (k : Bx w0 w O b T cs) (hb : Below w.heap.size w w') : Bx w0 w' O b T cs := ⟨k.blk.keep hb, k.no, k.ge⟩
theorem Bx.bget {b : Nat} {T : TypeId} {cs : List Value} (k : Bx w0 w O b T cs) : w.heap[b]? = some (.cells cs.toArray T (0, 0)) := k.blk
end Go.Proofs.YtfcccfplmdjndaaGreat
