/- parse: a Switch. -/
import Derived.Test.YtfcccfplmdjndaaGreatPaI
namespace Go.Proofs.YtfcccfplmdjndaaGreat
set_option linter.unusedSimpArgs false
set_option linter.unusedVariables false
open Go.RowKit

variable {w w' w0 : World} {O O0 O' : Nat → Prop} {g : Nat} {L : List Tk} {s s' : RS}
def nvCs (rg : List UInt8) (md : Nat) (el : Int) (cs : List CT) (R : SV) : NV := ⟨{ ntZ with k := 9, rg := strB rg, md := md, cs := cs, el := el }, SV.nil, SV.nil, SV.nil, R⟩
theorem ones_ct (y : CT) : ∀ u ∈ CT.cells y, u.oneCell' = true := by
 intro u hu
 simp only [CT.cells, List.mem_cons, List.not_mem_nil, or_false] at hu
 rcases hu with rfl | rfl <;> rfl
theorem node_cs {rg : List UInt8} {md : Nat} {el : Int} {cs : List CT} {R : SV} (h : w.ownsRow w0.heap.size 121 2 R.val R.n (flatC cs)) (hl : cs.length ≤ 1048576) : NodeOk w (w0.heap.size ≤ ·) (nvCs rg md el cs R) ∧ Fits (nvCs rg md el cs R) := by
 have hn : R.n = cs.length := by
  have h1 := h.1
  rw [flatC_len] at h1
  omega
 refine ⟨⟨rfl, rfl, rfl, hn, Rw.nil _ _ _, Rw.nil _ _ _, Rw.nil _ _ _, rw_own h (by decide) rfl⟩, ⟨Nat.zero_le _, Nat.zero_le _, Nat.zero_le _, by show R.n ≤ _; omega⟩⟩
structure ChSt (w0 wr : World) (O0 : Nat → Prop) (g : Nat) (L : List Tk) (b4 b5 : Nat) (rg : List UInt8) (md : Nat) (el : Int) (O : Nat → Prop) (s : RS) (cs : List CT) (R : SV) : Prop where
 at_ : At w0 O0 g L wr O s
 x4 : Bx w0 wr O b4 54 nvZ.cells
 x5 : Bx w0 wr O b5 54 (nvCs rg md el cs R).cells
 gr : Gr w0 wr O 121 2 R (flatC cs)
 nl : R.n = cs.length
set_option maxRecDepth 100000 in
set_option maxHeartbeats 8000000 in
theorem choose_any {M deep : Nat} {K : RS → Int × RS} (hK : KOk M ((deep : Int) + 1) K L) (hS : ∀ s : RS, 0 < s.ts.length → Suf s (K s).2) (hd : deep ≤ 10000000) (h : RdX w O g L s) (he : EndS s) (hN : s.ts.length ≤ M) : Calls Tryz.prog 114 #[.pointer (some ⟨g, 0, none⟩), .int .i64 (deep : Int)] w fun e w' => NRes w.heap.size (chooseP K s).1 e w' ∧ StG w O g L (chooseP K s).2 w' := by
 have HA := hid (At.start h)
 obtain ⟨P, hP⟩ : ∃ P, P = chooseP K s := ⟨_, rfl⟩
 have HQ := hid hP
 rw [← hP]
 have HK := hid hK
 have HS := hid hS
 have HEd := hid he
 have HNl := hid hN
 have HLe := hid h.le
 clear hP h hK he hN hS
 obtain ⟨ha, h4⟩ := HA.out.one 54 nvZ.cells #[.int .i64 0, .int .i64 0, .bool false, .bool false, .bool false, .int .u64 0, .int .u64 0, .string ⟨#[]⟩, .string ⟨#[]⟩, .int .u64 0, .int .u64 0, .slice none 0 0, .slice none 0 0, .slice none 0 0, .string ⟨#[]⟩, .int .u64 0, .slice none 0 0, .int .i64 0] rfl
 replace HA := hid ha
 have HX4 := hid h4
 clear ha h4
 go_enter Tryz.func114, Tryz.ntmps114
 go_upto_region 1 with fail
 generalize w.alloc (.cells #[.int .i64 0, .int .i64 0, .bool false, .bool false, .bool false, .int .u64 0, .int .u64 0, .string ⟨#[]⟩, .string ⟨#[]⟩, .int .u64 0, .int .u64 0, .slice none 0 0, .slice none 0 0, .slice none 0 0, .string ⟨#[]⟩, .int .u64 0, .slice none 0 0, .int .i64 0] 54) = w1 at *
 have HC := hid (name_g HA.out.rd)
 obtain ⟨u1, hu1⟩ : ∃ u, u = nameP s := ⟨_, rfl⟩
 rw [← hu1] at HC
 have HU1 := hid hu1
 have h1 := suf_name HEd.out.pos
 rw [← hu1] at h1
 have HSf := hid h1
 clear h1 hu1
 obtain ⟨X, hX⟩ : ∃ X, X = (nvCs u1.1 0 (-1) [] SV.nil).cells.toArray := ⟨_, rfl⟩
 have hszX : (Tryz.prog.info? 54).map (·.size) = some X.size := by rw [hX]; exact nv_size _
 have holX : nvZ.cells.toArray.size = X.size := by rw [hX]; rfl
 have honX : X.all (·.oneCell') = true := by rw [hX]; exact nv_one _
 have HXX := hid hX
 clear hX
 go_upto_region 2 with (first
  | (go_at_call 52; (with_reducible refine HC.out.mono ?_); rintro e wk ⟨rfl, hk⟩; obtain ⟨Ok, ha, hb⟩ := At.call HA.out hk; replace HA := hid ha; replace HX4 := hid (HX4.out.call hb); clear hk ha hb; clear HC; have Hl4 := hid HX4.out.blk.lt; obtain ⟨ha, h5⟩ := HA.out.one 54 nvZ.cells #[.int .i64 0, .int .i64 0, .bool false, .bool false, .bool false, .int .u64 0, .int .u64 0, .string ⟨#[]⟩, .string ⟨#[]⟩, .int .u64 0, .int .u64 0, .slice none 0 0, .slice none 0 0, .slice none 0 0, .string ⟨#[]⟩, .int .u64 0, .slice none 0 0, .int .i64 0] rfl; replace HX4 := hid (HX4.out.alloc (.cells #[.int .i64 0, .int .i64 0, .bool false, .bool false, .bool false, .int .u64 0, .int .u64 0, .string ⟨#[]⟩, .string ⟨#[]⟩, .int .u64 0, .int .u64 0, .slice none 0 0, .slice none 0 0, .slice none 0 0, .string ⟨#[]⟩, .int .u64 0, .slice none 0 0, .int .i64 0] 54)); have HA1 := hid ha; have HX5 := hid h5; have hbg := h5.bget; clear ha h5)
  | (refine wpList_bld rfl 54 _ rfl X (by rw [HXX.out]; kernel_rfl) ?_)
  | (with_reducible refine wpList_store_row rfl 54 _ _ rfl wk.heap.size X rfl rfl 54 _ hbg hszX holX honX ?_))
 clear hbg hszX holX honX
 have ha := HA1.out.brow HX5.out X
 have h4 := HX4.out.orow (b' := wk.heap.size) (fun e => by have := Hl4.out; omega) X
 have h5 := HX5.out.row (cs' := (nvCs u1.1 0 (-1) [] SV.nil).cells)
 rw [← HXX.out] at h5
 obtain ⟨b5, hb5⟩ : ∃ b5, b5 = wk.heap.size := ⟨_, rfl⟩
 rw [← hb5] at ha h4 h5 Hl4
 simp only [← hb5]
 clear hb5 HX4 HX5 HA HA1
 have HA := hid ha
 have HX4 := hid h4
 have HX5 := hid h5
 clear ha h4 h5 HXX
 generalize (wk.alloc (.cells #[.int .i64 0, .int .i64 0, .bool false, .bool false, .bool false, .int .u64 0, .int .u64 0, .string ⟨#[]⟩, .string ⟨#[]⟩, .int .u64 0, .int .u64 0, .slice none 0 0, .slice none 0 0, .slice none 0 0, .string ⟨#[]⟩, .int .u64 0, .slice none 0 0, .int .i64 0] 54)).setRow b5 X = w2 at *
 have HC := hid (show Calls Tryz.prog 86 #[.pointer (some ⟨g, 0, none⟩), .int .i64 4, .string ⟨#[37]⟩] _ (fun e w' => e = .returned (.bool (tookP 4 [37] u1.2).1) ∧ StG _ _ g L (tookP 4 [37] u1.2).2 w') from took_g HA.out.rd 4 [37])
 obtain ⟨u2, hu2⟩ : ∃ u, u = tookP 4 [37] u1.2 := ⟨_, rfl⟩
 rw [← hu2] at HC
 have h2 := HSf.out.trans (suf_took HSf.out.pos 4 [37])
 rw [← hu2] at h2
 replace HSf := hid h2
 have HU2 := hid hu2
 clear hu2 h2
 simp only [Act.put]
 obtain ⟨bm, s2⟩ := u2
 simp only at HC HSf
 go_upto_if 12 with (go_at_call 86; (with_reducible refine HC.out.mono ?_); rintro e wk ⟨rfl, hk⟩; obtain ⟨Ok, ha, hb⟩ := At.call HA.out hk; replace HA := hid ha; replace HX4 := hid (HX4.out.call hb); replace HX5 := hid (HX5.out.call hb); clear hk ha hb; clear HC)
 obtain ⟨u3, hu3⟩ : ∃ u : Nat × RS, u = (if bm = true then numP 1 uMax s2 else (0, s2)) := ⟨_, rfl⟩
 have HU3 := hid hu3
 have HSf3 := hid (show Suf s u3.2 from by
  rw [hu3]
  split
  ·exact HSf.out.trans (suf_num HSf.out.pos _ _)
  ·exact HSf.out)
 clear hu3
 go_cut [] from 11 to 15 (fun wx => ∃ O3 : Nat → Prop, Hid (ChSt w wx O g L w.heap.size b5 u1.1 u3.1 (-1) O3 u3.2 [] SV.nil))
 case first =>
  cases bm
  ·go_wp2_with fail
   go_meet
   refine ⟨Ok, hid ?_⟩
   rw [HU3.out]
   exact ⟨HA.out, HX4.out, HX5.out, Gr.nil _ _ _ _ _, rfl⟩
  ·have HC := hid (show Calls Tryz.prog 122 #[.pointer (some ⟨g, 0, none⟩), .int .u64 1, .int .u64 18446744073709551615] _ (fun e w' => e = .returned (.int .u64 ((numP 1 uMax s2).1 : Int)) ∧ StG _ _ g L (numP 1 uMax s2).2 w') from num_g HA.out.rd 1 uMax)
   obtain ⟨q, hq⟩ : ∃ q, q = numP 1 uMax s2 := ⟨_, rfl⟩
   rw [← hq] at HC
   have HQq := hid hq
   clear hq
   obtain ⟨md, s3⟩ := q
   simp only at HC
   go_wp2_with (go_at_call 122; (with_reducible refine HC.out.mono ?_); rintro e wk ⟨rfl, hk⟩; obtain ⟨Ok, ha, hb⟩ := At.call HA.out hk; replace HA := hid ha; replace HX4 := hid (HX4.out.call hb); replace HX5 := hid (HX5.out.call hb); clear hk ha hb; clear HC; have z5_15 : _ = some ((.int .u64 0 : Value)) := HX5.out.at 15; have y5_15 := HX5.out.free 15)
   go_meet
   have ha := HA.out.bset HX5.out 15 (.int .u64 (md : Int))
   have h5 := HX5.out.put 15 (.int .u64 (md : Int))
   have h4 := HX4.out.other (b' := b5) (fun e => by have := Hl4.out; omega) 15 (.int .u64 (md : Int))
   refine ⟨Ok, hid ?_⟩
   rw [HU3.out, if_pos trivial, ← HQq.out]
   exact ⟨ha, h4, h5, Gr.nil _ _ _ _ _, rfl⟩
 case rest =>
  obtain ⟨O3, HSt0⟩ := hcut
  have HEn3 := hid (HEd.out.suf HSf3.out)
  have HC := hid (show Calls Tryz.prog 53 #[.pointer (some ⟨g, 0, none⟩), .string ⟨#[123]⟩] _ (fun e w' => e = .returned (.tuple #[]) ∧ StG _ _ g L (signP [123] u3.2) w') from sign_g HSt0.out.at_.rd [123])
  obtain ⟨s4, hs4⟩ : ∃ u, u = signP [123] u3.2 := ⟨_, rfl⟩
  rw [← hs4] at HC
  have HS4 := hid hs4
  have h4 := suf_sign HSf3.out.pos [123]
  rw [← hs4] at h4
  have HEn4 := hid (HEn3.out.suf h4)
  have HNl4 := hid (Nat.le_trans h4.le (Nat.le_trans HSf3.out.le HNl.out))
  have HLe4 := hid (Nat.le_trans h4.le (Nat.le_trans HSf3.out.le HLe.out))
  clear hs4 h4
  clear HA HX4 HX5
  go_upto_region 5 with (go_at_call 53; (with_reducible refine HC.out.mono ?_); rintro e wn ⟨rfl, hk⟩; obtain ⟨On, ha, hc, hn⟩ := At.call2 HSt0.out.at_ hk; have HSt := hid (show ChSt w wn O g L w.heap.size b5 u1.1 u3.1 (-1) On s4 [] SV.nil from ⟨ha, HSt0.out.x4.call2 hc hn, HSt0.out.x5.call2 hc hn, Gr.nil _ _ _ _ _, rfl⟩); clear hk ha hc hn; clear HC)
  clear HSt0
  obtain ⟨T, hT⟩ : ∃ T, T = casesP K s4.ts.length [] s4 := ⟨_, rfl⟩
  have HT := hid hT
  clear hT
  go_upto_block 0 with fail
  go_cut [] from 6 to 40 (fun wx => ∃ (O5 : Nat → Prop) (R5 : SV), Hid (ChSt w wx O g L w.heap.size b5 u1.1 u3.1 (-1) O5 T.2 T.1 R5) ∧ Hid (EndS T.2 ∧ T.2.ts.length ≤ M ∧ T.1.length ≤ 70000))
  case first =>
   go_wp2_with fail
   go_loopg [6] (s4.ts.length + 1) (fun m t wr => ∃ (ok : Bool) (cs : List CT) (R' : SV) (Oi : Nat → Prop) (si : RS), t = .bool ok ∧ (ok = true → si.ts.length ≤ m) ∧ Hid (ok = true → cs.length + si.ts.length ≤ s4.ts.length ∧ ∃ k, si.ts.length ≤ k ∧ casesP K k cs si = T) ∧ Hid (ok = false → cs.length ≤ s4.ts.length + 1 ∧ T = (cs, si)) ∧ Hid (EndS si ∧ si.ts.length ≤ M) ∧ Hid (ChSt w wr O g L w.heap.size b5 u1.1 u3.1 (-1) Oi si cs R'))
   case atStart => exact ⟨true, [], SV.nil, On, s4, rfl, fun _ => by omega, hid (fun _ => ⟨by simp, s4.ts.length, Nat.le_refl _, HT.out.symm⟩), hid (fun h => (by cases h)), hid ⟨HEn4.out, HNl4.out⟩, HSt⟩
   case round =>
    clear HSt
    obtain ⟨ok, cs, R', Oi, si, rfl, hm, HGo, HStp, HEi, HSt⟩ := hrel
    cases ok
    ·clear hm HGo
     obtain ⟨Hfl, HTe⟩ := HStp.out rfl
     have HTe := hid HTe
     have HFl := hid Hfl
     clear Hfl HStp
     go_wp2_with fail
     go_meet
     refine ⟨Oi, R', hid ?_, hid ?_⟩
     ·rw [HTe.out]; exact HSt.out
     ·rw [HTe.out]
      exact ⟨HEi.out.1, HEi.out.2, by have := HFl.out; have := HLe4.out; show cs.length ≤ 70000; omega⟩
    ·clear HStp
     replace hm := hm rfl
     replace HGo := hid (HGo.out rfl)
     have Hpos := hid HEi.out.1.pos
     obtain ⟨Ra, Rn, Rc⟩ := R'
     have HA := hid HSt.out.at_
     have HX4 := hid HSt.out.x4
     have HX5 := hid HSt.out.x5
     have HGC := hid HSt.out.gr
     have HRn := hid HSt.out.nl
     have HRb := hid (show Rn ≤ 70000 from by have h1 := HSt.out.nl; have h2 := HGo.out.1; have h3 := HLe4.out; simp only at h1; omega)
     clear HSt
     have HC := hid (room_g HA.out.rd cs.length)
     rw [← show (Rn : Nat) = cs.length from HRn.out] at HC
     obtain ⟨v1, hv1⟩ : ∃ u, u = roomP cs.length si := ⟨_, rfl⟩
     have HV1 := hid hv1
     have HL1 := hid (show v1.ts = si.ts from by rw [hv1]; exact room_len _ _)
     rw [← show (Rn : Nat) = cs.length from HRn.out] at hv1
     rw [← hv1] at HC
     clear hv1
     have HE1 := hid (show EndS v1 from by obtain ⟨l, t, e, h5⟩ := HEi.out.1; exact ⟨l, t, by rw [HL1.out]; exact e, h5⟩)
     have HN1 := hid (show v1.ts.length ≤ M from by rw [HL1.out]; exact HEi.out.2)
     have z5_16 : _ = some ((.slice Ra Rn Rc : Value)) := HX5.out.at 16; have y5_16 := HX5.out.free 16
     go_upto_region 9 with (go_at_call 116; (with_reducible refine HC.out.mono ?_); rintro e wk ⟨rfl, hk⟩; obtain ⟨Ok, ha, hc, hn⟩ := At.call2 HA.out hk; replace HA := hid ha; replace HX4 := hid (HX4.out.call2 hc hn); replace HX5 := hid (HX5.out.call2 hc hn); replace HGC := hid (HGC.out.call2 hc hn); clear hk ha hc hn; clear HC)
     clear z5_16 y5_16
     have HC := hid (show Calls Tryz.prog 122 #[.pointer (some ⟨g, 0, none⟩), .int .u64 0, .int .u64 18446744073709551615] _ (fun e w' => e = .returned (.int .u64 ((numP 0 uMax v1).1 : Int)) ∧ StG _ _ g L (numP 0 uMax v1).2 w') from num_g HA.out.rd 0 uMax)
     obtain ⟨v2, hv2⟩ : ∃ u, u = numP 0 uMax v1 := ⟨_, rfl⟩
     rw [← hv2] at HC
     have HV2 := hid hv2
     have hsf := suf_num HE1.out.pos 0 uMax
     rw [← hv2] at hsf
     have HSf2 := hid hsf
     clear hsf
     have HDc := hid (dec_case HS.out HE1.out.pos)
     rw [← hv2] at HDc
     clear hv2
     have HE2 := hid (HE1.out.suf HSf2.out)
     have HN2 := hid (Nat.le_trans HSf2.out.le HN1.out)
     obtain ⟨nu, s2'⟩ := v2
     simp only at HC
     go_upto_region 10 with (go_at_call 122; (with_reducible refine HC.out.mono ?_); rintro e wk ⟨rfl, hk⟩; obtain ⟨Ok, ha, hc, hn⟩ := At.call2 HA.out hk; replace HA := hid ha; replace HX4 := hid (HX4.out.call2 hc hn); replace HX5 := hid (HX5.out.call2 hc hn); replace HGC := hid (HGC.out.call2 hc hn); clear hk ha hc hn; clear HC)
     have HGne := hid (fun k (hk : (SV.val ⟨Ra, Rn, Rc⟩).ownBlock = some k) => (owns_block HGC.out.row k hk).2)
     have Hl4' := hid HX4.out.blk.lt
     have Hl5' := hid HX5.out.blk.lt
     obtain ⟨ha, h7⟩ := HA.out.one 121 (CT.cells ⟨nu, 0⟩) #[.int .u64 (nu : Int), .int .i64 0] rfl
     replace HX4 := hid (HX4.out.alloc (.cells #[.int .u64 (nu : Int), .int .i64 0] 121))
     replace HX5 := hid (HX5.out.alloc (.cells #[.int .u64 (nu : Int), .int .i64 0] 121))
     replace HGC := hid (HGC.out.keep (al_below _ (.cells #[.int .u64 (nu : Int), .int .i64 0] 121)))
     replace HA := hid ha
     obtain ⟨b7, hb7⟩ : ∃ b7, b7 = wk.heap.size := ⟨_, rfl⟩
     rw [← hb7] at h7 Hl4' Hl5' HGne
     simp only [← hb7]
     have HX7 := hid h7
     clear ha h7
     have Hb7 := hid hb7
     clear hb7
     generalize wk.alloc (.cells #[.int .u64 (nu : Int), .int .i64 0] 121) = w7 at *
     have HC := hid (told_any HK.out HS.out hd HA.out.rd HE2.out HN2.out)
     obtain ⟨v3, hv3⟩ : ∃ u, u = toldP K s2' := ⟨_, rfl⟩
     rw [← hv3] at HC
     rw [← hv3] at HDc
     have HV3 := hid hv3
     have hsf := suf_told HS.out HE2.out.pos
     rw [← hv3] at hsf
     have HSf3' := hid hsf
     clear hsf hv3
     have HE3 := hid (HE2.out.suf HSf3'.out)
     have HN3 := hid (Nat.le_trans HSf3'.out.le HN2.out)
     go_upto_region 11 with (go_at_call 124; (with_reducible refine HC.out.mono ?_); rintro e wk ⟨rfl, hk⟩; obtain ⟨Ok, ha, hc, hn⟩ := At.call2 HA.out hk; replace HA := hid ha; replace HX4 := hid (HX4.out.call2 hc hn); replace HX5 := hid (HX5.out.call2 hc hn); replace HX7 := hid (HX7.out.call2 hc hn); replace HGC := hid (HGC.out.call2 hc hn); clear hk ha hc hn; clear HC; have z7_1 : _ = some ((.int .i64 0 : Value)) := HX7.out.at 1; have y7_1 := HX7.out.free 1)
     have ha := HA.out.bset HX7.out 1 (.int .i64 v3.1)
     have h7 := HX7.out.put 1 (.int .i64 v3.1)
     have h4 := HX4.out.other (b' := b7) (fun e => by have := Hl4'.out; omega) 1 (.int .i64 v3.1)
     have h5 := HX5.out.other (b' := b7) (fun e => by have := Hl5'.out; omega) 1 (.int .i64 v3.1)
     have hg : Gr w (wk.setCell ⟨b7, 1, none⟩ (.int .i64 v3.1)) Ok 121 2 ⟨Ra, Rn, Rc⟩ (flatC cs) := ⟨owns_chg HGC.out.row ((Chg.refl wk (fun k => k = b7)).set b7 1 rfl _) (fun k hk e => by have := HGne.out k hk; omega), HGC.out.no⟩
     clear HA HX4 HX5 HX7 HGC z7_1 y7_1
     have HA := hid ha
     have HX4 := hid h4
     have HX5 := hid h5
     have HGC := hid hg
     have HX7 := hid (show Bx _ _ _ _ _ (CT.cells ⟨nu, v3.1⟩) from h7)
     clear ha h4 h5 h7 hg
     generalize wk.setCell ⟨b7, 1, none⟩ (.int .i64 v3.1) = w8 at *
     have z7_0 : _ = some ((.int .u64 (nu : Int) : Value)) := HX7.out.at 0
     have z7_1 : _ = some ((.int .i64 v3.1 : Value)) := HX7.out.at 1
     have z5_16 : _ = some ((.slice Ra Rn Rc : Value)) := HX5.out.at 16; have y5_16 := HX5.out.free 16
     obtain ⟨ha, hb⟩ := HA.out.one 121 (CT.cells ⟨nu, v3.1⟩) #[.int .u64 (nu : Int), .int .i64 v3.1] rfl
     have HA2 := hid ha
     have HB8 := hid hb.blk
     have HX42 := hid (HX4.out.alloc (.cells #[.int .u64 (nu : Int), .int .i64 v3.1] 121))
     have HX52 := hid (HX5.out.alloc (.cells #[.int .u64 (nu : Int), .int .i64 v3.1] 121))
     have HGC2 := hid (HGC.out.keep (al_below _ (.cells #[.int .u64 (nu : Int), .int .i64 v3.1] 121)))
     clear ha hb
     obtain ⟨i0, hi0, hz0, hz1, hz2⟩ := info_parts info_case
     have HI0 := hid (And.intro hi0 (And.intro hz0 (And.intro hz1 hz2)))
     clear hi0 hz0 hz1 hz2
     go_upto_region 7 with ((refine wpList_append_lies _ rfl _ _ 52 rfl w.heap.size 121 i0 _ 2 16 Tryz.underlying52 HI0.out.1 HI0.out.2.1 HI0.out.2.2.1 HI0.out.2.2.2 rfl (by decide) (.slice Ra Rn Rc) Rn (flatC cs) rfl HGC2.out.row ⟨w8.heap.size, 0, none⟩ 1 1 (CT.cells ⟨nu, v3.1⟩) rfl rfl (World.news_of_block HB8.out) (ones_ct _) (by decide) (by have := HRb.out; unfold maxLen; omega) (by have := HRb.out; omega) HA2.out.size _ rfl ?_); intro g9 c9 w9 hown9 hgr9 hat9 hlt9; have HG9 := hid (Gr.app HGC2.out HA2.out hown9 hgr9 hat9); have HA9 := hid (HGC2.out.at HA2.out hgr9); have HX49 := hid (HGC2.out.bx HX42.out (by decide) hgr9); have HX59 := hid (HGC2.out.bx HX52.out (by decide) hgr9); have z9_16 : _ = some ((.slice Ra Rn Rc : Value)) := HX59.out.at 16; have y9_16 := HX59.out.free 16; clear hown9 hgr9 hat9 hlt9)
     have HSt2 := hid (show ChSt w (w9.setCell ⟨b5, 16, none⟩ (.slice (some ⟨g9, 0, none⟩) (Rn + 1) c9)) O g L w.heap.size b5 u1.1 u3.1 (-1) Ok v3.2 (cs ++ [⟨nu, v3.1⟩]) ⟨some ⟨g9, 0, none⟩, Rn + 1, c9⟩ from by
      refine ⟨HA9.out.bset HX59.out 16 _, HX49.out.other (b' := b5) (fun e => by have := Hl4.out; omega) 16 _, HX59.out.put 16 (.slice (some ⟨g9, 0, none⟩) (Rn + 1) c9), ?_, ?_⟩
      ·have e1 : flatC (cs ++ [⟨nu, v3.1⟩]) = flatC cs ++ CT.cells ⟨nu, v3.1⟩ := by simp [flatC]
       rw [e1]
       exact HG9.out.bset HX59.out (by decide) 16 _
      ·show Rn + 1 = (cs ++ [_]).length
       rw [List.length_append, show Rn = cs.length from HRn.out]
       rfl)
     clear z7_0 z7_1 z5_16 y5_16 z9_16 y9_16
     generalize w9.setCell ⟨b5, 16, none⟩ (.slice (some ⟨g9, 0, none⟩) (Rn + 1) c9) = w10 at *
     obtain ⟨p, hnx⟩ := next_g HSt2.out.at_.rd
     have HC := hid hnx
     have q0 := tok_0 (nxt v3.2).1 p (nxt v3.2).2
     clear hnx
     have hl1 : v1.ts.length = si.ts.length := by rw [HL1.out]
     have HLl := hid (And.intro hl1 (Nat.le_trans HSf3'.out.le HSf2.out.le))
     clear hl1
     have HTT := hid HGo.out.2
     have HFl := hid HGo.out.1
     clear HGo
     have HTC := hid (show ∀ k, casesP K (k + 1) cs si = (if (nxt v3.2).1 = 2 then casesP K k (cs ++ [⟨nu, v3.1⟩]) v3.2 else (cs ++ [⟨nu, v3.1⟩], v3.2)) from fun k => by
      conv => lhs; unfold casesP
      simp only [← HV1.out, ← HV2.out, ← HV3.out])
     by_cases hk : (nxt v3.2).1 = 2
     ·have hkb : (((nxt v3.2).1 : Int) == 2) = true := by simpa using (show ((nxt v3.2).1 : Int) = 2 by omega)
      have HK2 := hid hk
      clear hk
      go_wp2_with (go_at_call 51; (with_reducible refine HC.out.mono ?_); rintro e wn ⟨rfl, hk⟩; obtain ⟨Op, ha, hc, hn⟩ := At.call2 HSt2.out.at_ hk; have HSt3 := hid (show ChSt w wn O g L w.heap.size b5 u1.1 u3.1 (-1) Op v3.2 (cs ++ [⟨nu, v3.1⟩]) ⟨some ⟨g9, 0, none⟩, Rn + 1, c9⟩ from ⟨ha, HSt2.out.x4.call2 hc hn, HSt2.out.x5.call2 hc hn, HSt2.out.gr.call2 hc hn, HSt2.out.nl⟩); clear hk ha hc hn; clear HC)
      have hlt : v3.2.ts.length < si.ts.length := by
       have h1 := HDc.out.less HE3.out (by rw [HK2.out]; decide)
       have h2 := HLl.out.1
       omega
      go_roundg (v3.2.ts.length)
      case measure => have := hm; omega
      case rel =>
       refine ⟨true, cs ++ [⟨nu, v3.1⟩], _, Op, v3.2, rfl, fun _ => Nat.le_refl _, hid (fun _ => ⟨?_, ?_⟩), hid (fun h => (by cases h)), hid ⟨HE3.out, HN3.out⟩, HSt3⟩
       ·rw [List.length_append, List.length_singleton]
        have := HFl.out
        omega
       ·obtain ⟨k, hk1, hk2⟩ := HTT.out
        obtain ⟨k', rfl⟩ : ∃ k', k = k' + 1 := ⟨k - 1, by omega⟩
        refine ⟨k', by omega, ?_⟩
        rw [← hk2, HTC.out, if_pos HK2.out]
     ·have hkb : (((nxt v3.2).1 : Int) == 2) = false := by simpa using (show ¬ ((nxt v3.2).1 : Int) = 2 by omega)
      have HK2 := hid hk
      clear hk
      go_wp2_with (go_at_call 51; (with_reducible refine HC.out.mono ?_); rintro e wn ⟨rfl, hk⟩; obtain ⟨Op, ha, hc, hn⟩ := At.call2 HSt2.out.at_ hk; have HSt3 := hid (show ChSt w wn O g L w.heap.size b5 u1.1 u3.1 (-1) Op v3.2 (cs ++ [⟨nu, v3.1⟩]) ⟨some ⟨g9, 0, none⟩, Rn + 1, c9⟩ from ⟨ha, HSt2.out.x4.call2 hc hn, HSt2.out.x5.call2 hc hn, HSt2.out.gr.call2 hc hn, HSt2.out.nl⟩); clear hk ha hc hn; clear HC)
      go_roundg 0
      case measure => have := hm; have := Hpos.out; omega
      case rel =>
       refine ⟨false, cs ++ [⟨nu, v3.1⟩], _, Op, v3.2, rfl, fun h => (by cases h), hid (fun h => (by cases h)), hid (fun _ => ⟨?_, ?_⟩), hid ⟨HE3.out, HN3.out⟩, HSt3⟩
       ·rw [List.length_append, List.length_singleton]
        have := HFl.out
        omega
       ·obtain ⟨k, hk1, hk2⟩ := HTT.out
        obtain ⟨k', rfl⟩ : ∃ k', k = k' + 1 := ⟨k - 1, by have := Hpos.out; omega⟩
        rw [← hk2, HTC.out, if_neg HK2.out]
  case rest =>
   obtain ⟨O5, R5, HSt5, HEz⟩ := hcut
   clear HSt
   obtain ⟨cs, s5⟩ := T
   simp only at HSt5 HEz
   have HA := hid HSt5.out.at_
   have HX4 := hid HSt5.out.x4
   have HX5 := hid HSt5.out.x5
   have HGC := hid HSt5.out.gr
   have Hcl := hid HEz.out.2.2
   clear HSt5
   have HC := hid (show Calls Tryz.prog 86 #[.pointer (some ⟨g, 0, none⟩), .int .i64 1, .string ⟨#[101, 108, 115, 101]⟩] _ (fun e w' => e = .returned (.bool (tookP 1 [101, 108, 115, 101] s5).1) ∧ StG _ _ g L (tookP 1 [101, 108, 115, 101] s5).2 w') from took_g HA.out.rd 1 [101, 108, 115, 101])
   obtain ⟨u6', hu6⟩ : ∃ u, u = tookP 1 [101, 108, 115, 101] s5 := ⟨_, rfl⟩
   rw [← hu6] at HC
   have h6 := suf_took HEz.out.1.pos 1 [101, 108, 115, 101]
   rw [← hu6] at h6
   have HSf6 := hid h6
   have HU6 := hid hu6
   clear hu6 h6
   have HE6 := hid (HEz.out.1.suf HSf6.out)
   have HN6 := hid (Nat.le_trans HSf6.out.le HEz.out.2.1)
   obtain ⟨bl, s6⟩ := u6'
   simp only at HC HE6 HN6
   cases bl
   ·go_upto_region 14 with (go_at_call 86; (with_reducible refine HC.out.mono ?_); rintro e wk ⟨rfl, hk⟩; obtain ⟨Ok, ha, hc, hn⟩ := At.call2 HA.out hk; replace HA := hid ha; replace HX4 := hid (HX4.out.call2 hc hn); replace HX5 := hid (HX5.out.call2 hc hn); replace HGC := hid (HGC.out.call2 hc hn); clear hk ha hc hn; clear HC)
    have HC := hid (show Calls Tryz.prog 53 #[.pointer (some ⟨g, 0, none⟩), .string ⟨#[125]⟩] _ (fun e w' => e = .returned (.tuple #[]) ∧ StG _ _ g L (signP [125] s6) w') from sign_g HA.out.rd [125])
    have HRE := hid (show chooseP K s = ({ ntZ with k := 9, rg := strB u1.1, md := u3.1, cs := cs, el := (-1) }, signP [125] s6) from by
     unfold chooseP
     have e1 : ([101, 108, 115, 101] : List UInt8) = s_else := rfl
     have h6 := HU6.out
     rw [e1] at h6
     simp only [← HU1.out, ← HU2.out, ← HU3.out, ← HS4.out, ← HT.out, ← h6]
     rfl)
    go_wp2_with (first
     | (go_at_call 53; (with_reducible refine HC.out.mono ?_); rintro e wk ⟨rfl, hk⟩; obtain ⟨Ok, ha, hc, hn⟩ := At.call2 HA.out hk; replace HA := hid ha; replace HX4 := hid (HX4.out.call2 hc hn); replace HX5 := hid (HX5.out.call2 hc hn); replace HGC := hid (HGC.out.call2 hc hn); clear hk ha hc hn; clear HC)
       | (with_reducible refine wpList_load_row rfl 54 _ rfl (b5) rfl 54 (nvCs u1.1 u3.1 (-1) cs R5).cells.toArray (0, 0) _ HX5.out.bget Tryz.underlying54 rfl (nv_size _) ?_)
       | (with_reducible refine wpList_store_row rfl 54 _ _ rfl (w.heap.size) (nvCs u1.1 u3.1 (-1) cs R5).cells.toArray rfl rfl 54 _ HX4.out.bget (nv_size _) rfl (nv_one _) ?_))
    have hb2 := HX4.out.row (cs' := (nvCs u1.1 u3.1 (-1) cs R5).cells)
    refine bodyPost_ret (v := (nvCs u1.1 u3.1 (-1) cs R5).val) (results_cell_row (P := Tryz.prog) (fn := Tryz.f114) rfl _ _ w.heap.size 54 (nvCs u1.1 u3.1 (-1) cs R5).cells.toArray (0, 0) _ rfl hb2.bget Tryz.underlying54 rfl (nv_size _)) rfl ?_
    rw [HQ.out, HRE.out]
    obtain ⟨k1, k2⟩ := node_cs (rg := u1.1) (md := u3.1) (el := (-1)) (HGC.out.brow HX4.out (by decide) (nvCs u1.1 u3.1 (-1) cs R5).cells.toArray).row (by have := Hcl.out; omega)
    exact ⟨⟨_, rfl, rfl, k1, k2⟩, (HA.out.brow HX4.out _).stg⟩
   ·have HC0 := HC
    go_upto_region 13 with (go_at_call 86; (with_reducible refine HC.out.mono ?_); rintro e wk ⟨rfl, hk⟩; obtain ⟨Ok, ha, hc, hn⟩ := At.call2 HA.out hk; replace HA := hid ha; replace HX4 := hid (HX4.out.call2 hc hn); replace HX5 := hid (HX5.out.call2 hc hn); replace HGC := hid (HGC.out.call2 hc hn); clear hk ha hc hn; clear HC)
    clear HC0
    have HC := hid (told_any HK.out HS.out hd HA.out.rd HE6.out HN6.out)
    obtain ⟨v7, hv7⟩ : ∃ u, u = toldP K s6 := ⟨_, rfl⟩
    rw [← hv7] at HC
    have HV7 := hid hv7
    clear hv7
    have HGne := hid (fun k (hk : (SV.val R5).ownBlock = some k) => (owns_block HGC.out.row k hk).2)
    go_upto_region 14 with (go_at_call 124; (with_reducible refine HC.out.mono ?_); rintro e wk ⟨rfl, hk⟩; obtain ⟨Ok, ha, hc, hn⟩ := At.call2 HA.out hk; replace HA := hid ha; replace HX4 := hid (HX4.out.call2 hc hn); replace HX5 := hid (HX5.out.call2 hc hn); replace HGC := hid (HGC.out.call2 hc hn); clear hk ha hc hn; clear HC; have z5_17 : _ = some ((.int .i64 (-1) : Value)) := HX5.out.at 17; have y5_17 := HX5.out.free 17)
    have ha := HA.out.bset HX5.out 17 (.int .i64 v7.1)
    have h5 := HX5.out.put 17 (.int .i64 v7.1)
    have h4 := HX4.out.other (b' := b5) (fun e => by have := Hl4.out; omega) 17 (.int .i64 v7.1)
    have hg := HGC.out.bset HX5.out (by decide) 17 (.int .i64 v7.1)
    clear HA HX4 HX5 HGC z5_17 y5_17
    have HA := hid ha
    have HX4 := hid h4
    have HX5 := hid (show Bx _ _ _ _ _ ((nvCs u1.1 u3.1 v7.1 cs R5).cells) from h5)
    have HGC := hid hg
    clear ha h4 h5 hg
    generalize World.setCell _ ⟨b5, 17, none⟩ (.int .i64 v7.1) = w8 at *
    have HC := hid (show Calls Tryz.prog 53 #[.pointer (some ⟨g, 0, none⟩), .string ⟨#[125]⟩] _ (fun e w' => e = .returned (.tuple #[]) ∧ StG _ _ g L (signP [125] v7.2) w') from sign_g HA.out.rd [125])
    have HRE := hid (show chooseP K s = ({ ntZ with k := 9, rg := strB u1.1, md := u3.1, cs := cs, el := v7.1 }, signP [125] v7.2) from by
     unfold chooseP
     have e1 : ([101, 108, 115, 101] : List UInt8) = s_else := rfl
     have h6 := HU6.out
     rw [e1] at h6
     simp only [← HU1.out, ← HU2.out, ← HU3.out, ← HS4.out, ← HT.out, ← h6, ← HV7.out]
     rfl)
    go_wp2_with (first
     | (go_at_call 53; (with_reducible refine HC.out.mono ?_); rintro e wk ⟨rfl, hk⟩; obtain ⟨Ok, ha, hc, hn⟩ := At.call2 HA.out hk; replace HA := hid ha; replace HX4 := hid (HX4.out.call2 hc hn); replace HX5 := hid (HX5.out.call2 hc hn); replace HGC := hid (HGC.out.call2 hc hn); clear hk ha hc hn; clear HC)
       | (with_reducible refine wpList_load_row rfl 54 _ rfl (b5) rfl 54 (nvCs u1.1 u3.1 v7.1 cs R5).cells.toArray (0, 0) _ HX5.out.bget Tryz.underlying54 rfl (nv_size _) ?_)
       | (with_reducible refine wpList_store_row rfl 54 _ _ rfl (w.heap.size) (nvCs u1.1 u3.1 v7.1 cs R5).cells.toArray rfl rfl 54 _ HX4.out.bget (nv_size _) rfl (nv_one _) ?_))
    have hb2 := HX4.out.row (cs' := (nvCs u1.1 u3.1 v7.1 cs R5).cells)
    refine bodyPost_ret (v := (nvCs u1.1 u3.1 v7.1 cs R5).val) (results_cell_row (P := Tryz.prog) (fn := Tryz.f114) rfl _ _ w.heap.size 54 (nvCs u1.1 u3.1 v7.1 cs R5).cells.toArray (0, 0) _ rfl hb2.bget Tryz.underlying54 rfl (nv_size _)) rfl ?_
    rw [HQ.out, HRE.out]
    obtain ⟨k1, k2⟩ := node_cs (rg := u1.1) (md := u3.1) (el := v7.1) (HGC.out.brow HX4.out (by decide) (nvCs u1.1 u3.1 v7.1 cs R5).cells.toArray).row (by have := Hcl.out; omega)
    exact ⟨⟨_, rfl, rfl, k1, k2⟩, (HA.out.brow HX4.out _).stg⟩
end Go.Proofs.YtfcccfplmdjndaaGreat
