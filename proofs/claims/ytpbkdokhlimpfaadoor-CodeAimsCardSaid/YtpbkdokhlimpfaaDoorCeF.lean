/- code: the laws' builds. -/
import Derived.Test.YtpbkdokhlimpfaaDoorCeE
namespace Go.Proofs.YtpbkdokhlimpfaaDoor
set_option linter.unusedSimpArgs false
set_option linter.unusedVariables false
open Go.RowKit Go.Sort

theorem fix_nums {w : World} {base : Nat} {qs : List ST} {qA : Option Addr} {qn qc : Nat} {ql qu qa : Int} (h : (⟨qs, ⟨qA, qn, qc⟩, ql, qu, qa⟩ : PT).bare = fixP.bare) (ho : POwn w base ⟨qs, ⟨qA, qn, qc⟩, ql, qu, qa⟩) : qn = 4 ∧ ql = 1 ∧ qu = 0 ∧ qa = 0 := by
  have hl := bare_len h
  have hn : qn = qs.length := owns_n ho.row
  have h1 : ql = 1 := congrArg PT.sl h
  have h2 : qu = 0 := congrArg PT.su h
  have h3 : qa = 0 := congrArg PT.au h
  have h4 : qs.length = 4 := hl
  exact ⟨by omega, h1, h2, h3⟩
theorem fix_in {p : PT} (h : p.bare = fixP.bare) : ∀ x ∈ p.ss, ∃ y ∈ fixP.ss, x.bare = y.bare := by
  intro x hx
  obtain ⟨j, hj, rfl⟩ := List.mem_iff_getElem.1 hx
  have hl := bare_len h
  exact ⟨_, List.getElem_mem (by omega), bare_get h hj (by omega)⟩
theorem fix_small {p : PT} (h : p.bare = fixP.bare) : p.ss.length ≤ 1000000 ∧ ∀ x ∈ p.ss, x.ws.length ≤ 1000000 := by
  refine ⟨by rw [bare_len h]; decide, fun x hx => ?_⟩
  obtain ⟨y, hy, he⟩ := fix_in h x hx
  have hw : x.ws = y.ws := show x.bare.ws = y.bare.ws by rw [he]
  rw [hw]
  simp only [fixP, List.mem_cons, List.not_mem_nil, or_false] at hy
  rcases hy with rfl | rfl | rfl | rfl <;> (show (0 : Nat) ≤ 1000000; decide)
theorem fix_num {p : PT} (h : p.bare = fixP.bare) : ∀ x ∈ p.ss, StNum x := by
  intro x hx
  obtain ⟨y, hy, he⟩ := fix_in h x hx
  refine num_bare he ?_
  simp only [fixP, List.mem_cons, List.not_mem_nil, or_false] at hy
  rcases hy with rfl | rfl | rfl | rfl <;> exact mkS_num _ _ _ _ (by unfold I64; omega) (by unfold I64; omega)
set_option maxRecDepth 100000 in
set_option maxHeartbeats 8000000 in
theorem builds_any (w : World) (ht : Tab10 w) : Calls Tryd.prog 7 #[] w fun e w' => e = .returned (.bool true) ∧ Below w.heap.size w w' := by
  obtain ⟨RR, hRR⟩ : ∃ RR : Ending → World → Prop, RR = fun e w' => e = .returned (.bool true) ∧ Below w.heap.size w w' := ⟨_, rfl⟩
  rw [← hRR]
  have HRR := hid hRR
  obtain ⟨K, hKK⟩ : ∃ K : Nat → Prop, K = fun _ => False := ⟨_, rfl⟩
  have HK := hid (show ∀ W : World, ∀ b, K b → b < W.heap.size from fun W b h => by rw [hKK] at h; exact h.elim)
  have HM1 := hid (MkB.new (Below.refl w.heap.size w) (HK.out w))
  have HT := hid ht
  have HS1 := hid (show Calls Tryd.prog 13 #[.pointer (some ⟨w.heap.size, 0, none⟩)] _ (fun e w' => e = .returned (.int .i64 0) ∧ MkB w w' K w.heap.size ⟨[], SV.nil, 1, 0, 0⟩ ∧ Chg _ w' (fun b => ¬ K b)) from Slot_b HM1.out (HK.out _) (by decide) (by decide))
  obtain ⟨X0, hX0⟩ : ∃ X, X = (mkS 3 1 0 255).cells.toArray := ⟨_, rfl⟩
  obtain ⟨X1, hX1⟩ : ∃ X, X = (mkS 11 0 0 0).cells.toArray := ⟨_, rfl⟩
  obtain ⟨X2, hX2⟩ : ∃ X, X = (mkS 2 0 0 0).cells.toArray := ⟨_, rfl⟩
  obtain ⟨X3, hX3⟩ : ∃ X, X = (mkS 20 0 0 0).cells.toArray := ⟨_, rfl⟩
  have HX0 := hid hX0
  have HX1 := hid hX1
  have HX2 := hid hX2
  have HX3 := hid hX3
  clear hRR hKK ht hX0 hX1 hX2 hX3
  go_enter Tryd.func7, Tryd.ntmps7
  go_upto_region 2 with (fail)
  generalize w.alloc (.cells #[.slice none 0 0, .int .i64 0, .int .i64 0, .int .i64 0, .bool false] 32) = w1 at *
  go_upto_region 3 with (first
    | (go_at_call 13; (with_reducible refine HS1.out.mono ?_); rintro e w2 ⟨rfl, hM2, -⟩; have HM2 := hid hM2; clear hM2; have HA0 := hid (show Calls Tryd.prog 12 #[.pointer (some ⟨w.heap.size, 0, none⟩), .agg X0] w2 (fun e w' => e = .returned (.int .i64 0) ∧ (∃ s' S', MkB w w' K w.heap.size ⟨[] ++ [(mkS 3 1 0 255).moved s'], S', 1, 0, 0⟩) ∧ Chg w2 w' (fun b => ¬ K b)) from by have h := Add_b (p := ⟨[], SV.nil, 1, 0, 0⟩) HM2.out (HK.out _) (mkS 3 1 0 255) (mkS_ok w2 (fun _ => True) _ _ _ _) (by show 0 < 65536; decide) (by show (0 : Nat) ≤ 1000000; decide); unfold ST.val at h; rw [← HX0.out] at h; exact h))
    | ((refine wpList_build rfl 37 _ rfl X0 (by rw [HX0.out]; kernel_rfl) ?_))
    | (go_at_call 12; (with_reducible refine HA0.out.mono ?_); rintro e w3 ⟨rfl, ⟨s0, S0, hM3⟩, -⟩; have HM3 := hid hM3; clear hM3))
  have HA1 := hid (show Calls Tryd.prog 12 #[.pointer (some ⟨w.heap.size, 0, none⟩), .agg X1] w3 (fun e w' => e = .returned (.int .i64 1) ∧ (∃ s' S', MkB w w' K w.heap.size ⟨[(mkS 3 1 0 255).moved s0] ++ [(mkS 11 0 0 0).moved s'], S', 1, 0, 0⟩) ∧ Chg w3 w' (fun b => ¬ K b)) from by have h := Add_b (p := ⟨[(mkS 3 1 0 255).moved s0], S0, 1, 0, 0⟩) HM3.out (HK.out _) (mkS 11 0 0 0) (mkS_ok w3 (fun _ => True) _ _ _ _) (by show 1 < 65536; decide) (by show (0 : Nat) ≤ 1000000; decide); unfold ST.val at h; rw [← HX1.out] at h; exact h)
  go_upto_region 4 with (first | ((refine wpList_build rfl 37 _ rfl X1 (by rw [HX1.out]; kernel_rfl) ?_)) | (go_at_call 12; (with_reducible refine HA1.out.mono ?_); rintro e w4 ⟨rfl, ⟨s1, S1, hM4⟩, -⟩; have HM4 := hid hM4; clear hM4))
  have HA2 := hid (show Calls Tryd.prog 12 #[.pointer (some ⟨w.heap.size, 0, none⟩), .agg X2] w4 (fun e w' => e = .returned (.int .i64 2) ∧ (∃ s' S', MkB w w' K w.heap.size ⟨[(mkS 3 1 0 255).moved s0, (mkS 11 0 0 0).moved s1] ++ [(mkS 2 0 0 0).moved s'], S', 1, 0, 0⟩) ∧ Chg w4 w' (fun b => ¬ K b)) from by have h := Add_b (p := ⟨[(mkS 3 1 0 255).moved s0, (mkS 11 0 0 0).moved s1], S1, 1, 0, 0⟩) HM4.out (HK.out _) (mkS 2 0 0 0) (mkS_ok w4 (fun _ => True) _ _ _ _) (by show 2 < 65536; decide) (by show (0 : Nat) ≤ 1000000; decide); unfold ST.val at h; rw [← HX2.out] at h; exact h)
  go_upto_region 5 with (first | ((refine wpList_build rfl 37 _ rfl X2 (by rw [HX2.out]; kernel_rfl) ?_)) | (go_at_call 12; (with_reducible refine HA2.out.mono ?_); rintro e w5 ⟨rfl, ⟨s2, S2, hM5⟩, -⟩; have HM5 := hid hM5; clear hM5))
  have HH5 := hid (show Calls Tryd.prog 11 #[.pointer (some ⟨w.heap.size, 0, none⟩)] w5 (fun e w' => e = .returned (.int .i64 3) ∧ w' = w5) from Here_b (p := ⟨[(mkS 3 1 0 255).moved s0, (mkS 11 0 0 0).moved s1, (mkS 2 0 0 0).moved s2], S2, 1, 0, 0⟩) HM5.out)
  have HAi := hid (show Calls Tryd.prog 19 #[.pointer (some ⟨w.heap.size, 0, none⟩), .int .i64 1, .int .i64 3] w5 (fun e w' => e = .returned (.tuple #[]) ∧ MkB w w' K w.heap.size ⟨[(mkS 3 1 0 255).moved s0, ((mkS 11 0 0 0).moved s1).aimed 3, (mkS 2 0 0 0).moved s2], S2, 1, 0, 0⟩ ∧ Chg w5 w' (fun b => ¬ K b)) from Aim_b (p := ⟨[(mkS 3 1 0 255).moved s0, (mkS 11 0 0 0).moved s1, (mkS 2 0 0 0).moved s2], S2, 1, 0, 0⟩) HM5.out (HK.out _) 1 (by show 1 < 3; decide) 3 (by show 3 ≤ 1000000; decide))
  go_upto_region 6 with (first
    | (go_at_call 11; (with_reducible refine HH5.out.mono ?_); rintro e w6 ⟨rfl, rfl⟩)
    | (go_at_call 19; (with_reducible refine HAi.out.mono ?_); rintro e w6 ⟨rfl, hM6, -⟩; have HM6 := hid hM6; clear hM6))
  have HA3 := hid (show Calls Tryd.prog 12 #[.pointer (some ⟨w.heap.size, 0, none⟩), .agg X3] w6 (fun e w' => e = .returned (.int .i64 3) ∧ (∃ s' S', MkB w w' K w.heap.size ⟨[(mkS 3 1 0 255).moved s0, ((mkS 11 0 0 0).moved s1).aimed 3, (mkS 2 0 0 0).moved s2] ++ [(mkS 20 0 0 0).moved s'], S', 1, 0, 0⟩) ∧ Chg w6 w' (fun b => ¬ K b)) from by have h := Add_b (p := ⟨[(mkS 3 1 0 255).moved s0, ((mkS 11 0 0 0).moved s1).aimed 3, (mkS 2 0 0 0).moved s2], S2, 1, 0, 0⟩) HM6.out (HK.out _) (mkS 20 0 0 0) (mkS_ok w6 (fun _ => True) _ _ _ _) (by show 3 < 65536; decide) (by show (0 : Nat) ≤ 1000000; decide); unfold ST.val at h; rw [← HX3.out] at h; exact h)
  go_upto_region 7 with (first | ((refine wpList_build rfl 37 _ rfl X3 (by rw [HX3.out]; kernel_rfl) ?_)) | (go_at_call 12; (with_reducible refine HA3.out.mono ?_); rintro e w7 ⟨rfl, ⟨s3, S3, hM7⟩, -⟩; have HM7 := hid hM7; clear hM7))
  have HPr := hid (Program_b (p := ⟨[(mkS 3 1 0 255).moved s0, ((mkS 11 0 0 0).moved s1).aimed 3, (mkS 2 0 0 0).moved s2] ++ [(mkS 20 0 0 0).moved s3], S3, 1, 0, 0⟩) HM7.out (by show 4 ≤ 1000000; decide) (fun x hx => by
    simp only [List.mem_append, List.mem_cons, List.not_mem_nil, or_false] at hx
    rcases hx with (rfl | rfl | rfl) | rfl <;> (show (0 : Nat) ≤ 1000000; decide)))
  have HBa := hid (show (⟨[(mkS 3 1 0 255).moved s0, ((mkS 11 0 0 0).moved s1).aimed 3, (mkS 2 0 0 0).moved s2] ++ [(mkS 20 0 0 0).moved s3], S3, 1, 0, 0⟩ : PT).bare = fixP.bare from rfl)
  generalize (⟨[(mkS 3 1 0 255).moved s0, ((mkS 11 0 0 0).moved s1).aimed 3, (mkS 2 0 0 0).moved s2] ++ [(mkS 20 0 0 0).moved s3], S3, 1, 0, 0⟩ : PT) = p7 at *
  have HP7 := hid (show Calls Tryd.prog 16 #[.pointer (some ⟨w.heap.size, 0, none⟩)] w7 (fun e w' => ∃ q : PT, e = .returned (.tuple #[q.val, fltV (0, 0)]) ∧ q.bare = fixP.bare ∧ POwn w' w7.heap.size q ∧ Below w7.heap.size w7 w') from HPr.out.mono (fun e w' h => by
    have hc : (ckS (mayS p7) p7).1 = 0 := by rw [ck_bare HBa.out, fix_ck]
    obtain ⟨q, h1, h2, h3⟩ := h.2.2 hc
    exact ⟨q, h1, h2.trans HBa.out, h3, h.1⟩))
  go_upto_region 8 with (go_at_call 16; (with_reducible refine HP7.out.mono ?_); rintro e w8 ⟨⟨qs, ⟨qA, qn, qc⟩, ql, qu, qa⟩, rfl, hq, ho8, hb8⟩; obtain ⟨rfl, rfl, rfl, rfl⟩ := fix_nums hq ho8; have HQ := hid hq; have HO8 := hid ho8; have HB8 := hid hb8; clear hq ho8 hb8; unfold PT.val fltV)
  have hb9 : Below w8.heap.size w8 ((w8.alloc (.cells #[.slice qA 4 qc, .int .i64 1, .int .i64 0, .int .i64 0] 24)).alloc (.cells #[.int .i64 0, .int .i64 0] 29)) := ((Below.refl w8.heap.size w8).alloc (Nat.le_refl _) _).alloc (by simp) _
  have hk9 : BoxP ((w8.alloc (.cells #[.slice qA 4 qc, .int .i64 1, .int .i64 0, .int .i64 0] 24)).alloc (.cells #[.int .i64 0, .int .i64 0] 29)) w8.heap.size ⟨qs, ⟨qA, 4, qc⟩, 1, 0, 0⟩ := Blk.alloc (heap_alloc_new w8 _) _
  have hf9 : Blk ((w8.alloc (.cells #[.slice qA 4 qc, .int .i64 1, .int .i64 0, .int .i64 0] 24)).alloc (.cells #[.int .i64 0, .int .i64 0] 29)) (w8.heap.size + 1) 29 [.int .i64 0, .int .i64 0] := by
    have := heap_alloc_new (w8.alloc (.cells #[.slice qA 4 qc, .int .i64 1, .int .i64 0, .int .i64 0] 24)) (.cells #[.int .i64 0, .int .i64 0] 29)
    rw [World.size_alloc] at this
    exact this
  have HK9 := hid hk9
  have HF9 := hid hf9
  have HP9 := hid (show PtOk _ _ (⟨qs, ⟨qA, 4, qc⟩, 1, 0, 0⟩ : PT) from (HO8.out.keep hb9).ok)
  have HB9 := hid (show Below w.heap.size w _ from (HM7.out.bel.trans (HB8.out.mono HM7.out.bel.size)).trans (hb9.mono (HM7.out.bel.trans (HB8.out.mono HM7.out.bel.size)).size))
  clear hb9 hk9 hf9
  generalize (w8.alloc (.cells #[.slice qA 4 qc, .int .i64 1, .int .i64 0, .int .i64 0] 24)).alloc (.cells #[.int .i64 0, .int .i64 0] 29) = w9 at *
  have HRe := hid (Reached_any ⟨qs, ⟨qA, 4, qc⟩, 1, 0, 0⟩ w9 HP9.out (fix_small HQ.out).1 (fix_small HQ.out).2)
  unfold PT.val at HRe
  obtain ⟨x0, x1, x2, x3⟩ := HK9.out.four
  go_upto_region 9 with (go_at_call 22; (with_reducible refine HRe.out.mono ?_); rintro e w10 ⟨gm, met, rfl, -, hm10, hb10, hr10⟩; have HB10 := hid hb10; have HM10 := hid hm10; have HR10 := hid hr10; clear hm10 hb10 hr10)
  clear x0 x1 x2 x3
  obtain ⟨x0, x1, x2, x3⟩ := BoxP.four (p := ⟨qs, ⟨qA, 4, qc⟩, 1, 0, 0⟩) (Blk.keep HK9.out HB10.out)
  have HLi := hid (Lines_any ⟨qs, ⟨qA, 4, qc⟩, 1, 0, 0⟩ w10 (HP9.out.keep HB10.out) (fix_small HQ.out).1 (fix_small HQ.out).2 (fix_num HQ.out) (Tab10.keep HT.out (HB9.out.trans (HB10.out.mono HB9.out.size))))
  unfold PT.val at HLi
  go_upto_region 10 with (go_at_call 18; (with_reducible refine HLi.out.mono ?_); rintro e w11 ⟨lA, ln, lc, rfl, hs11⟩; have HS11 := hid hs11; clear hs11)
  clear x0 x1 x2 x3
  obtain ⟨x0, x1, x2, x3⟩ := BoxP.four (p := ⟨qs, ⟨qA, 4, qc⟩, 1, 0, 0⟩) (Blk.keep (Blk.keep HK9.out HB10.out) HS11.out.bel)
  simp only at x0 x1 x2 x3
  have f0 := Blk.at (Blk.keep (Blk.keep HF9.out HB10.out) HS11.out.bel) 0
  simp only [List.getElem?_cons_zero] at f0
  have hck : (ckS (mayS ⟨qs, ⟨qA, 4, qc⟩, 1, 0, 0⟩) ⟨qs, ⟨qA, 4, qc⟩, 1, 0, 0⟩).1 = 0 := by rw [ck_bare HQ.out, fix_ck]
  have hl4 : qs.length = 4 := bare_len HQ.out
  have hr := HR10.out
  unfold rchL at hr
  rw [if_pos hck] at hr
  have hm4 : met.length = 4 := hr.1.trans hl4
  have hmet : met = [true, true, false, true] ∨ ∃ a b, met = [a, b, false, true] := .inr (by
    have h3 : met[3]? = some true := (hr.2 3).2 (rch_bare HQ.out.symm fix_3)
    have h2 : met[2]? ≠ some true := fun h => fix_2 (rch_bare HQ.out ((hr.2 2).1 h))
    match met, hm4 with
    | [a, b, c, d], _ =>
      simp at h2 h3
      subst h2 h3
      exact ⟨a, b, rfl⟩)
  obtain ⟨ma, mb, hmm⟩ : ∃ a b, met = [a, b, false, true] := by
    rcases hmet with h | h
    · exact ⟨_, _, h⟩
    · exact h
  have hM11 := Blk.keep HM10.out HS11.out.bel
  rw [hmm] at hM11
  have m2 := Blk.at hM11 2
  have m3 := Blk.at hM11 3
  simp only [bools, List.map_cons, List.map_nil, List.getElem?_cons_zero, List.getElem?_cons_succ] at m2 m3
  have hln : ln = 4 := by
    have := HS11.out.len
    unfold linesS at this
    rw [List.length_mapIdx] at this
    exact this.symm.trans hl4
  subst hln
  obtain ⟨lg, hlA, -, -, -, hlc, -⟩ := owns_at HS11.out.row (by decide)
  subst hlA
  obtain ⟨S1, hS1⟩ : ∃ S1, S1 = lineS 1 (mkS 11 3 0 0) := ⟨_, rfl⟩
  have l1 := hlc 1 (.string S1) (by
    rw [show (linesS (PT.ss ⟨qs, ⟨qA, 4, qc⟩, 1, 0, 0⟩)) = linesS fixP.ss from lines_bare HQ.out, hS1]
    rfl)
  have q1 : (S1.toList == ({ data := #[49, 32, 106, 117, 109, 112, 32, 51, 32, 48] } : ByteArray).toList) = true := by
    rw [hS1, ByteArray.toList_eq, ByteArray.toList_eq]
    unfold lineS joinB lineW itoB Lib.itoa
    simp only [Lib.decDigits_eq, mkS, List.flatMap_nil, List.append_nil]
    decide +kernel
  obtain ⟨S20, hS20⟩ : ∃ S, S = nmS 20 := ⟨_, rfl⟩
  obtain ⟨S00, hS00⟩ : ∃ S, S = nmS 0 := ⟨_, rfl⟩
  have q2 : (S20.toList == ({ data := #[101, 110, 100] } : ByteArray).toList) = true := by rw [hS20, ByteArray.toList_eq, ByteArray.toList_eq]; decide +kernel
  have q3 : (S00.toList == ({ data := #[] } : ByteArray).toList) = true := by rw [hS00, ByteArray.toList_eq, ByteArray.toList_eq]; decide +kernel
  have HN1 := hid (show Calls Tryd.prog 23 #[.int .i64 20] w11 (fun e w' => e = .returned (.string S20) ∧ Below w11.heap.size w11 w') from by rw [hS20]; exact Name_any 20 w11)
  have HN2 := hid (fun W => (show Calls Tryd.prog 23 #[.int .i64 0] W (fun e w' => e = .returned (.string S00) ∧ Below W.heap.size W w') from by rw [hS00]; exact Name_any 0 W))
  have HCz := hid (fun W => (show Calls Tryd.prog 9 #[.agg #[.slice none 0 0, .int .i64 0, .int .i64 0, .int .i64 0]] W (fun e w' => e = .returned (.agg #[.int .i64 2, .int .i64 0]) ∧ Below W.heap.size W w') from by
    have h := Check_any may_any PT.zero W (zero_ok W (fun _ => True)) (by decide) (fun x hx => by cases hx)
    rw [zero_ck] at h
    exact h))
  have hfl : ∀ W, (Instr.field 29 (.agg #[.int .i64 2, .int .i64 0]) 0).run Tryd.prog W = .ok (.int .i64 2) W := fun W => by kernel_rfl
  have HB11 := hid (show Below w.heap.size w w11 from (HB9.out.trans (HB10.out.mono HB9.out.size)).trans (HS11.out.bel.mono (HB9.out.trans (HB10.out.mono HB9.out.size)).size))
  rw [hl4] at *
  clear hS1 hS20 hS00 hlc hM11 hmm hmet hr hck hm4 hl4
  generalize (ByteArray.mk #[49, 32, 106, 117, 109, 112, 32, 51, 32, 48]) = C1 at *
  generalize (ByteArray.mk #[101, 110, 100]) = C2 at *
  generalize (ByteArray.mk #[]) = C3 at *
  go_wp2_with (first
    | (go_at_call 23; first | ((with_reducible refine HN1.out.mono ?_); rintro e w12 ⟨rfl, hb⟩; have HB12 := hid hb; clear hb) | ((with_reducible refine (HN2.out _).mono ?_); rintro e w13 ⟨rfl, hb⟩; have HB13 := hid hb; clear hb))
    | (go_at_call 9; (with_reducible refine (HCz.out _).mono ?_); rintro e w14 ⟨rfl, hb⟩; have HB14 := hid hb; clear hb))
  show RR (.returned (.bool true)) w14
  rw [HRR.out]
  have h1 := HB11.out.trans (HB12.out.mono HB11.out.size)
  have h2 := h1.trans (HB13.out.mono h1.size)
  exact ⟨rfl, h2.trans (HB14.out.mono h2.size)⟩
end Go.Proofs.YtpbkdokhlimpfaaDoor
