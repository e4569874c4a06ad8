/- parse: a Oneof, a Chain. -/
import Derived.Test.YtfcccfplmdjndaaGreatPaK
namespace Go.Proofs.YtfcccfplmdjndaaGreat
set_option linter.unusedSimpArgs false
set_option linter.unusedVariables false
open Go.RowKit

variable {w w' w0 : World} {O O0 O' : Nat → Prop} {g : Nat} {L : List Tk} {s s' : RS}
def nvKs (kk : Int) (ls : List Bool) (ks : List Int) (RK RL : SV) : NV := ⟨{ ntZ with k := kk, ls := ls, ks := ks }, RK, RL, SV.nil, SV.nil⟩
theorem node_ks {kk : Int} {ls : List Bool} {ks : List Int} {RK RL : SV} (h : w.ownsRow w0.heap.size 3 1 RK.val RK.n (intC ks)) (h2 : w.ownsRow w0.heap.size 4 1 RL.val RL.n (boolC ls)) (hl : ks.length ≤ 1048576) (hl2 : ls.length ≤ 1048576) : NodeOk w (w0.heap.size ≤ ·) (nvKs kk ls ks RK RL) ∧ Fits (nvKs kk ls ks RK RL) := by
 have hn : RK.n = ks.length := by
  have h1 := h.1
  rw [intC_len] at h1
  omega
 have hn2 : RL.n = ls.length := by
  have h1 := h2.1
  rw [boolC_len] at h1
  omega
 refine ⟨⟨hn, hn2, rfl, rfl, rw_own h (by decide) rfl, rw_own h2 (by decide) rfl, Rw.nil _ _ _, Rw.nil _ _ _⟩, ⟨by show RK.n ≤ _; omega, by show RL.n ≤ _; omega, Nat.zero_le _, Nat.zero_le _⟩⟩
theorem Gr.gr2 {T T2 : TypeId} {sz sz2 : Nat} {F F2 : SV} {xs xs2 : List Value} (h : Gr w0 w O T sz F xs) (k : Gr w0 w O T2 sz2 F2 xs2) (hT : T ≠ T2) (hg : w.grownBy w' F.val.ownBlock) : Gr w0 w' O T2 sz2 F2 xs2 :=
 ⟨owns_chg k.row (Chg.of_grown hg) (fun b hb e => hT (own_two h.row k.row e hb)), k.no⟩
structure AmSt (w0 wr : World) (O0 : Nat → Prop) (g : Nat) (L : List Tk) (b6 b7 : Nat) (kk : Int) (O : Nat → Prop) (s : RS) (ls : List Bool) (ks : List Int) (RK RL : SV) : Prop where
 at_ : At w0 O0 g L wr O s
 x6 : Bx w0 wr O b6 54 nvZ.cells
 x7 : Bx w0 wr O b7 54 (nvKs kk ls ks RK RL).cells
 gk : Gr w0 wr O 3 1 RK (intC ks)
 gl : Gr w0 wr O 4 1 RL (boolC ls)
 nk : RK.n = ks.length
 nl : RL.n = ls.length
set_option maxRecDepth 100000 in
set_option maxHeartbeats 8000000 in
theorem among_any {M deep : Nat} {K : RS → Int × RS} (hK : KOk M ((deep : Int) + 1) K L) (hS : ∀ s : RS, 0 < s.ts.length → Suf s (K s).2) (hd : deep ≤ 10000000) (chain : Bool) (kk : Int) (hkk : kk = if chain = true then 11 else 10) (h : RdX w O g L s) (he : EndS s) (hN : s.ts.length ≤ M) : Calls Tryz.prog 115 #[.pointer (some ⟨g, 0, none⟩), .int .i64 kk, .int .i64 (deep : Int)] w fun e w' => NRes w.heap.size (amongP K chain s).1 e w' ∧ StG w O g L (amongP K chain s).2 w' := by
 have HA := hid (At.start h)
 obtain ⟨P, hP⟩ : ∃ P, P = amongP K chain s := ⟨_, rfl⟩
 have HQ := hid hP
 rw [← hP]
 have HK := hid hK
 have HS := hid hS
 have HLe := hid h.le
 have HKK := hid hkk
 obtain ⟨s1, hs1⟩ : ∃ u, u = signP [123] s := ⟨_, rfl⟩
 have HS1 := hid hs1
 have h4 := suf_sign he.pos [123]
 rw [← hs1] at h4
 have HEd := hid (he.suf h4)
 have HNl := hid (Nat.le_trans h4.le hN)
 have HLe1 := hid (Nat.le_trans h4.le h.le)
 clear hP h hK he hN hS h4 hkk
 obtain ⟨ha, h6, h7⟩ := HA.out.two 54 nvZ.cells #[.int .i64 0, .int .i64 0, .bool false, .bool false, .bool false, .int .u64 0, .int .u64 0, .string ⟨#[]⟩, .string ⟨#[]⟩, .int .u64 0, .int .u64 0, .slice none 0 0, .slice none 0 0, .slice none 0 0, .string ⟨#[]⟩, .int .u64 0, .slice none 0 0, .int .i64 0] rfl 54 nvZ.cells #[.int .i64 0, .int .i64 0, .bool false, .bool false, .bool false, .int .u64 0, .int .u64 0, .string ⟨#[]⟩, .string ⟨#[]⟩, .int .u64 0, .int .u64 0, .slice none 0 0, .slice none 0 0, .slice none 0 0, .string ⟨#[]⟩, .int .u64 0, .slice none 0 0, .int .i64 0] rfl
 obtain ⟨X, hX⟩ : ∃ X, X = (nvKs kk [] [] SV.nil SV.nil).cells.toArray := ⟨_, rfl⟩
 have hb7 := h7.bget
 have hszX : (Tryz.prog.info? 54).map (·.size) = some X.size := by rw [hX]; exact nv_size _
 have holX : nvZ.cells.toArray.size = X.size := by rw [hX]; rfl
 have honX : X.all (·.oneCell') = true := by rw [hX]; exact nv_one _
 have HSt0 := hid (show AmSt w (((w.alloc (.cells #[.int .i64 0, .int .i64 0, .bool false, .bool false, .bool false, .int .u64 0, .int .u64 0, .string ⟨#[]⟩, .string ⟨#[]⟩, .int .u64 0, .int .u64 0, .slice none 0 0, .slice none 0 0, .slice none 0 0, .string ⟨#[]⟩, .int .u64 0, .slice none 0 0, .int .i64 0] 54)).alloc (.cells #[.int .i64 0, .int .i64 0, .bool false, .bool false, .bool false, .int .u64 0, .int .u64 0, .string ⟨#[]⟩, .string ⟨#[]⟩, .int .u64 0, .int .u64 0, .slice none 0 0, .slice none 0 0, .slice none 0 0, .string ⟨#[]⟩, .int .u64 0, .slice none 0 0, .int .i64 0] 54)).setRow (w.heap.size + 1) X) O g L w.heap.size (w.heap.size + 1) kk O s [] [] SV.nil SV.nil from ⟨ha.brow h7 X, h6.orow (fun e => by omega) X, by rw [hX]; exact h7.row, Gr.nil _ _ _ _ _, Gr.nil _ _ _ _ _, rfl, rfl⟩)
 have HXX := hid hX
 clear ha h6 h7 hX
 obtain ⟨T, hT⟩ : ∃ T, T = kidsP K chain s1.ts.length [] [] s1 := ⟨_, rfl⟩
 have HT := hid hT
 clear hT HA
 go_enter Tryz.func115, Tryz.ntmps115
 go_upto_region 2 with (first
  | (refine wpList_bld rfl 54 _ rfl X (by rw [HXX.out]; kernel_rfl) ?_)
  | (with_reducible refine wpList_store_row rfl 54 _ _ rfl (w.heap.size + 1) X rfl rfl 54 _ hb7 hszX holX honX ?_))
 clear hb7 hszX holX honX HXX
 generalize ((w.alloc (.cells #[.int .i64 0, .int .i64 0, .bool false, .bool false, .bool false, .int .u64 0, .int .u64 0, .string ⟨#[]⟩, .string ⟨#[]⟩, .int .u64 0, .int .u64 0, .slice none 0 0, .slice none 0 0, .slice none 0 0, .string ⟨#[]⟩, .int .u64 0, .slice none 0 0, .int .i64 0] 54)).alloc (.cells #[.int .i64 0, .int .i64 0, .bool false, .bool false, .bool false, .int .u64 0, .int .u64 0, .string ⟨#[]⟩, .string ⟨#[]⟩, .int .u64 0, .int .u64 0, .slice none 0 0, .slice none 0 0, .slice none 0 0, .string ⟨#[]⟩, .int .u64 0, .slice none 0 0, .int .i64 0] 54)).setRow (w.heap.size + 1) X = w1 at *
 have HC := hid (show Calls Tryz.prog 53 #[.pointer (some ⟨g, 0, none⟩), .string ⟨#[123]⟩] _ (fun e w' => e = .returned (.tuple #[]) ∧ StG _ _ g L (signP [123] s) w') from sign_g HSt0.out.at_.rd [123])
 rw [← hs1] at HC
 clear hs1
 go_upto_region 3 with (go_at_call 53; (with_reducible refine HC.out.mono ?_); rintro e wn ⟨rfl, hk⟩; obtain ⟨On, ha, hc, hn⟩ := At.call2 HSt0.out.at_ hk; have HSt := hid (show AmSt w wn O g L w.heap.size (w.heap.size + 1) kk On s1 [] [] SV.nil SV.nil from ⟨ha, HSt0.out.x6.call2 hc hn, HSt0.out.x7.call2 hc hn, Gr.nil _ _ _ _ _, Gr.nil _ _ _ _ _, rfl, rfl⟩); clear hk ha hc hn; clear HC)
 clear HSt0
 go_upto_block 0 with fail
 go_wp2_with fail
 go_loopg [8] (s1.ts.length + 1) (fun m t wr => ∃ (ok : Bool) (ls : List Bool) (ks : List Int) (RK RL : SV) (Oi : Nat → Prop) (si : RS), t = .bool ok ∧ (ok = true → si.ts.length ≤ m) ∧ Hid (ls.length ≤ ks.length) ∧ Hid (ok = true → ks.length + si.ts.length ≤ s1.ts.length ∧ ∃ k, si.ts.length ≤ k ∧ kidsP K chain k ls ks si = T) ∧ Hid (ok = false → ks.length ≤ s1.ts.length + 1 ∧ T = ((ls, ks), si)) ∧ Hid (EndS si ∧ si.ts.length ≤ M) ∧ Hid (AmSt w wr O g L w.heap.size (w.heap.size + 1) kk Oi si ls ks RK RL))
 case atStart => exact ⟨true, [], [], SV.nil, SV.nil, On, s1, rfl, fun _ => by omega, hid (Nat.le_refl _), hid (fun _ => ⟨by simp, s1.ts.length, Nat.le_refl _, HT.out.symm⟩), hid (fun h => (by cases h)), hid ⟨HEd.out, HNl.out⟩, HSt⟩
 case round =>
  clear HSt
  obtain ⟨ok, ls, ks, RK, RL, Oi, si, rfl, hm, HLl0, HGo, HStp, HEi, HSt⟩ := hrel
  cases ok
  ·clear hm HGo
   obtain ⟨Hfl, HTe⟩ := HStp.out rfl
   have HTe := hid HTe
   have HFl := hid Hfl
   clear Hfl HStp
   have HA := hid HSt.out.at_
   have HX6 := hid HSt.out.x6
   have HX7 := hid HSt.out.x7
   have HGK := hid HSt.out.gk
   have HGL := hid HSt.out.gl
   clear HSt
   have HC := hid (show Calls Tryz.prog 53 #[.pointer (some ⟨g, 0, none⟩), .string ⟨#[125]⟩] _ (fun e w' => e = .returned (.tuple #[]) ∧ StG _ _ g L (signP [125] si) w') from sign_g HA.out.rd [125])
   have HRE := hid (show amongP K chain s = ({ ntZ with k := kk, ls := ls, ks := ks }, signP [125] si) from by
    unfold amongP
    simp only [← HS1.out, ← HT.out, HTe.out, ← HKK.out])
   go_wp2_with (first
    | (go_at_call 53; (with_reducible refine HC.out.mono ?_); rintro e wk ⟨rfl, hk⟩; obtain ⟨Ok, ha, hc, hn⟩ := At.call2 HA.out hk; replace HA := hid ha; replace HX6 := hid (HX6.out.call2 hc hn); replace HX7 := hid (HX7.out.call2 hc hn); replace HGK := hid (HGK.out.call2 hc hn); replace HGL := hid (HGL.out.call2 hc hn); clear hk ha hc hn; clear HC)
    | (with_reducible refine wpList_load_row rfl 54 _ rfl (w.heap.size + 1) rfl 54 (nvKs kk ls ks RK RL).cells.toArray (0, 0) _ HX7.out.bget Tryz.underlying54 rfl (nv_size _) ?_)
    | (with_reducible refine wpList_store_row rfl 54 _ _ rfl (w.heap.size) (nvKs kk ls ks RK RL).cells.toArray rfl rfl 54 _ HX6.out.bget (nv_size _) rfl (nv_one _) ?_))
   have hb2 := HX6.out.row (cs' := (nvKs kk ls ks RK RL).cells)
   refine bodyPost_ret (v := (nvKs kk ls ks RK RL).val) (results_cell_row (P := Tryz.prog) (fn := Tryz.f115) rfl _ _ w.heap.size 54 (nvKs kk ls ks RK RL).cells.toArray (0, 0) _ rfl hb2.bget Tryz.underlying54 rfl (nv_size _)) rfl ?_
   rw [HQ.out, HRE.out]
   obtain ⟨k1, k2⟩ := node_ks (kk := kk) (HGK.out.brow HX6.out (by decide) (nvKs kk ls ks RK RL).cells.toArray).row (HGL.out.brow HX6.out (by decide) (nvKs kk ls ks RK RL).cells.toArray).row (by have := HFl.out; have := HLe1.out; omega) (by have := HLl0.out; have := HFl.out; have := HLe1.out; omega)
   exact ⟨⟨_, rfl, rfl, k1, k2⟩, (HA.out.brow HX6.out _).stg⟩
  ·clear HStp
   replace hm := hm rfl
   replace HGo := hid (HGo.out rfl)
   have Hpos := hid HEi.out.1.pos
   obtain ⟨Ka, Kn, Kc⟩ := RK
   obtain ⟨La, Ln, Lc⟩ := RL
   have z7_11 : _ = some (Value.slice Ka Kn Kc) := HSt.out.x7.at 11
   have HA := hid HSt.out.at_
   have HX6 := hid HSt.out.x6
   have HX7 := hid HSt.out.x7
   have HGK := hid HSt.out.gk
   have HGL := hid HSt.out.gl
   have HKn := hid (show Kn = ks.length from HSt.out.nk)
   have HLn := hid (show Ln = ls.length from HSt.out.nl)
   have HKb := hid (show Kn ≤ 70000 from by have h1 := HKn.out; have h2 := HGo.out.1; have h3 := HLe1.out; omega)
   have HLb := hid (show Ln ≤ 70000 from by have h1 := HKn.out; have h2 := HLn.out; have h3 := HKb.out; have h4 := HLl0.out; omega)
   clear HSt
   have HC := hid (room_g HA.out.rd ks.length)
   rw [← HKn.out] at HC
   obtain ⟨u1, hu1⟩ : ∃ u, u = roomP ks.length si := ⟨_, rfl⟩
   have HU1 := hid hu1
   have HL1 := hid (show u1.ts = si.ts from by rw [hu1]; exact room_len _ _)
   rw [← HKn.out] at hu1
   rw [← hu1] at HC
   clear hu1
   have HE1 := hid (show EndS u1 from by obtain ⟨l, t, e, h5⟩ := HEi.out.1; exact ⟨l, t, by rw [HL1.out]; exact e, h5⟩)
   have HN1 := hid (show u1.ts.length ≤ M from by rw [HL1.out]; exact HEi.out.2)
   obtain ⟨u2, hu2⟩ : ∃ u : List Bool × RS, u = (if chain = true then (ls ++ [(tookP 1 s_last u1).1], (tookP 1 s_last u1).2) else (ls, u1)) := ⟨_, rfl⟩
   have HU2 := hid hu2
   have HSf2 := hid (show Suf u1 u2.2 from by
    rw [hu2]
    split
    ·exact suf_took HE1.out.pos _ _
    ·exact .refl HE1.out.pos)
   have HLl1 := hid (show u2.1.length ≤ ls.length + 1 from by
    rw [hu2]
    split
    ·simp
    ·simp)
   clear hu2
   have HE2 := hid (HE1.out.suf HSf2.out)
   have HN2 := hid (Nat.le_trans HSf2.out.le HN1.out)
   obtain ⟨u3, hu3⟩ : ∃ u, u = K u2.2 := ⟨_, rfl⟩
   have HU3 := hid hu3
   have h5 := HS.out u2.2 HE2.out.pos
   rw [← hu3] at h5
   have HSf3 := hid h5
   clear h5
   have HE3 := hid (HE2.out.suf HSf3.out)
   have HN3 := hid (Nat.le_trans HSf3.out.le HN2.out)
   go_upto_block 1 with fail
   go_cut [] from 16 to 38 (fun wx => ∃ (RK2 RL2 : SV) (O2 : Nat → Prop), Hid (AmSt w wx O g L w.heap.size (w.heap.size + 1) kk O2 u3.2 u2.1 (ks ++ [u3.1]) RK2 RL2))
   case first =>
    go_upto_if 22 with (go_at_call 116; (with_reducible refine HC.out.mono ?_); rintro e wk ⟨rfl, hk⟩; obtain ⟨Ok, ha, hc, hn⟩ := At.call2 HA.out hk; replace HA := hid ha; replace HX6 := hid (HX6.out.call2 hc hn); replace HX7 := hid (HX7.out.call2 hc hn); replace HGK := hid (HGK.out.call2 hc hn); replace HGL := hid (HGL.out.call2 hc hn); clear hk ha hc hn; clear HC)
    clear z7_11
    go_cut [] from 22 to 29 (fun wx => ∃ (RL2 : SV) (O2 : Nat → Prop), Hid (AmSt w wx O g L w.heap.size (w.heap.size + 1) kk O2 u2.2 u2.1 ks ⟨Ka, Kn, Kc⟩ RL2))
    case first =>
     cases chain
     ·have hkb : (kk == 11) = false := by rw [HKK.out]; rfl
      go_wp2_with fail
      go_meet
      refine ⟨⟨La, Ln, Lc⟩, Ok, hid ?_⟩
      have e := HU2.out
      simp only [Bool.false_eq_true, if_false] at e
      rw [e]
      exact ⟨HA.out, HX6.out, HX7.out, HGK.out, HGL.out, HKn.out, HLn.out⟩
     ·have hkb : (kk == 11) = true := by rw [HKK.out]; rfl
      have e := HU2.out
      simp only [if_true] at e
      have HU2' := hid e
      clear e
      go_upto_region 8 with fail
      refine am8_reg (bx := w.heap.size + 1) (g := g) (n := Ln) (c := Lc) (A := La) (dp := (deep : Int)) (kk := 0) (base := w.heap.size) (xs := boolC ls)
       (R1 := fun y wf => y = (tookP 1 s_last u1).1 ∧ ∃ Of, At w O g L wf Of u2.2 ∧ Bx w wf Of w.heap.size 54 nvZ.cells ∧ Bx w wf Of (w.heap.size + 1) 54 (nvKs kk ls ks ⟨Ka, Kn, Kc⟩ ⟨La, Ln, Lc⟩).cells ∧ Gr w wf Of 3 1 ⟨Ka, Kn, Kc⟩ (intC ks) ∧ Gr w wf Of 4 1 ⟨La, Ln, Lc⟩ (boolC ls))
       (R4 := fun wx => ∃ (RL2 : SV) (O2 : Nat → Prop), AmSt w wx O g L w.heap.size (w.heap.size + 1) kk O2 u2.2 u2.1 ks ⟨Ka, Kn, Kc⟩ RL2)
       rfl rfl (by simp) (HX7.out.drew.at 12) (by have := HLb.out; omega) (fun W => add_one hd W) ?_ ?_ ?_ ?_
      ·have h := took_g HA.out.drew.rd 1 s_last
       refine h.mono ?_
       rintro e wf ⟨rfl, hk⟩
       obtain ⟨Of, ha, hc, hn⟩ := At.call2 HA.out.drew hk
       refine ⟨_, rfl, _, rfl, rfl, Of, ?_, HX6.out.drew.call2 hc hn, HX7.out.drew.call2 hc hn, HGK.out.drew.call2 hc hn, HGL.out.drew.call2 hc hn⟩
       rw [HU2'.out]
       exact ha
      ·rintro y wf ⟨rfl, Of, ha, h6, h7, hgk, hgl⟩
       exact ⟨h7.at 12, h7.free 12, hgl.row, ha.size, h7.blk.lt⟩
      ·rintro y wf ⟨hy, Of, ha, h6, h7, hgk, hgl⟩ g9 c9 w9 hown hgr hat
       have ha' := ha.alloc (.cells ([Value.bool y]).toArray 4)
       have h6' := h6.alloc (.cells ([Value.bool y]).toArray 4)
       have h7' := h7.alloc (.cells ([Value.bool y]).toArray 4)
       have hgk' := hgk.keep (al_below _ (.cells ([Value.bool y]).toArray 4))
       have hgl' := hgl.keep (al_below _ (.cells ([Value.bool y]).toArray 4))
       have k1 := Gr.app hgl' ha' hown hgr hat
       have k2 := hgl'.at ha' hgr
       have k6 := hgl'.bx h6' (by decide) hgr
       have k7 := hgl'.bx h7' (by decide) hgr
       have kk1 := Gr.gr2 hgl' hgk' (by decide) hgr
       refine ⟨k7.at 12, k7.free 12, ⟨some ⟨g9, 0, none⟩, Ln + 1, c9⟩, Of, k2.bset k7 12 _, k6.other (fun e => by omega) 12 _, ?_, kk1.bset k7 (by decide) 12 _, ?_, HKn.out, ?_⟩
       ·rw [show u2.1 = ls ++ [y] from by rw [HU2'.out, hy]]
        exact k7.put 12 (.slice (some ⟨g9, 0, none⟩) (Ln + 1) c9)
       ·rw [show u2.1 = ls ++ [y] from by rw [HU2'.out, hy]]
        have e1 : boolC (ls ++ [y]) = boolC ls ++ [Value.bool y] := by simp [boolC]
        rw [e1]
        exact k1.bset k7 (by decide) 12 _
       ·rw [show u2.1 = ls ++ [y] from by rw [HU2'.out, hy]]
        show Ln + 1 = (ls ++ [y]).length
        rw [List.length_append, HLn.out]
        rfl
      ·rintro f wx ⟨R2, O2, h4⟩
       simp only [am8Us, List.foldl_cons, List.foldl_nil, List.setIfInBounds_toArray, List.set_cons_zero, List.set_cons_succ]
       have H4 := hid h4
       clear h4
       go_wp2_with fail
       go_meet
       exact ⟨R2, O2, H4⟩
    case rest =>
     clear HA HX6 HX7 HGK HGL
     obtain ⟨⟨Ma, Mn, Mc⟩, O2, HSt⟩ := hcut
     have HA := hid HSt.out.at_
     have HX6 := hid HSt.out.x6
     have HX7 := hid HSt.out.x7
     have HGK := hid HSt.out.gk
     have HGL := hid HSt.out.gl
     have HMn := hid HSt.out.nl
     clear HSt
     go_upto_region 9 with fail
     refine am9_reg (bx := w.heap.size + 1) (g := g) (n := Kn) (c := Kc) (A := Ka) (dp := (deep : Int)) (kk := 0) (base := w.heap.size) (xs := intC ks)
      (R1 := fun y wf => y = u3.1 ∧ ∃ Of, At w O g L wf Of u3.2 ∧ Bx w wf Of w.heap.size 54 nvZ.cells ∧ Bx w wf Of (w.heap.size + 1) 54 (nvKs kk u2.1 ks ⟨Ka, Kn, Kc⟩ ⟨Ma, Mn, Mc⟩).cells ∧ Gr w wf Of 3 1 ⟨Ka, Kn, Kc⟩ (intC ks) ∧ Gr w wf Of 4 1 ⟨Ma, Mn, Mc⟩ (boolC u2.1))
      (R4 := fun wx => ∃ (RK2 RL2 : SV) (O2 : Nat → Prop), AmSt w wx O g L w.heap.size (w.heap.size + 1) kk O2 u3.2 u2.1 (ks ++ [u3.1]) RK2 RL2)
      rfl rfl rfl (by simp) (HX7.out.drew.at 11) (by have := HKb.out; omega) (fun W => add_one hd W) ?_ ?_ ?_ ?_
     ·have h := HK.out _ _ _ _ HA.out.drew.rd HE2.out HN2.out
      rw [← hu3] at h
      refine h.mono ?_
      rintro e wf ⟨rfl, hk⟩
      obtain ⟨Of, ha, hc, hn⟩ := At.call2 HA.out.drew hk
      exact ⟨_, rfl, _, rfl, rfl, Of, ha, HX6.out.drew.call2 hc hn, HX7.out.drew.call2 hc hn, HGK.out.drew.call2 hc hn, HGL.out.drew.call2 hc hn⟩
     ·rintro y wf ⟨rfl, Of, ha, h6, h7, hgk, hgl⟩
      exact ⟨h7.at 11, h7.free 11, hgk.row, ha.size, h7.blk.lt⟩
     ·rintro y wf ⟨rfl, Of, ha, h6, h7, hgk, hgl⟩ g9 c9 w9 hown hgr hat
      have ha' := ha.alloc (.cells ([Value.int .i64 u3.1]).toArray 3)
      have h6' := h6.alloc (.cells ([Value.int .i64 u3.1]).toArray 3)
      have h7' := h7.alloc (.cells ([Value.int .i64 u3.1]).toArray 3)
      have hgk' := hgk.keep (al_below _ (.cells ([Value.int .i64 u3.1]).toArray 3))
      have hgl' := hgl.keep (al_below _ (.cells ([Value.int .i64 u3.1]).toArray 3))
      have k1 := Gr.app hgk' ha' hown hgr hat
      have k2 := hgk'.at ha' hgr
      have k6 := hgk'.bx h6' (by decide) hgr
      have k7 := hgk'.bx h7' (by decide) hgr
      have kl1 := Gr.gr2 hgk' hgl' (by decide) hgr
      refine ⟨k7.at 11, k7.free 11, ⟨some ⟨g9, 0, none⟩, Kn + 1, c9⟩, ⟨Ma, Mn, Mc⟩, Of, k2.bset k7 11 _, k6.other (fun e => by omega) 11 _, k7.put 11 (.slice (some ⟨g9, 0, none⟩) (Kn + 1) c9), ?_, kl1.bset k7 (by decide) 11 _, ?_, HMn.out⟩
      ·have e1 : intC (ks ++ [u3.1]) = intC ks ++ [Value.int .i64 u3.1] := by simp [intC]
       rw [e1]
       exact k1.bset k7 (by decide) 11 _
      ·show Kn + 1 = (ks ++ [u3.1]).length
       rw [List.length_append, HKn.out]
       rfl
     ·rintro f wx ⟨R2, R3, O2, h4⟩
      simp only [am9Us, List.foldl_cons, List.foldl_nil, List.setIfInBounds_toArray, List.set_cons_zero, List.set_cons_succ]
      have H4 := hid h4
      clear h4
      go_wp2_with fail
      go_meet
      exact ⟨R2, R3, O2, H4⟩
   case rest =>
    obtain ⟨RK2, RL2, O2, HSt2⟩ := hcut
    clear HA HX6 HX7 HGK HGL hu3
    have hl1 : u1.ts.length = si.ts.length := by rw [HL1.out]
    have HLc := hid (And.intro hl1 (Nat.le_trans HSf3.out.le HSf2.out.le))
    clear hl1
    have HC := hid (show Calls Tryz.prog 86 #[.pointer (some ⟨g, 0, none⟩), .int .i64 4, .string ⟨#[124]⟩] _ (fun e w' => e = .returned (.bool (tookP 4 [124] u3.2).1) ∧ StG _ _ g L (tookP 4 [124] u3.2).2 w') from took_g HSt2.out.at_.rd 4 [124])
    obtain ⟨u4, hu4⟩ : ∃ u, u = tookP 4 [124] u3.2 := ⟨_, rfl⟩
    rw [← hu4] at HC
    have h4 := suf_took HE3.out.pos 4 [124]
    rw [← hu4] at h4
    have HSf4 := hid h4
    have HDl := hid (show u4.1 = true → u4.2.ts.length < u3.2.ts.length from by rw [hu4]; exact took_less HE3.out (by decide))
    have HU4 := hid hu4
    clear hu4 h4
    have HE4 := hid (HE3.out.suf HSf4.out)
    have HN4 := hid (Nat.le_trans HSf4.out.le HN3.out)
    have HTT := hid HGo.out.2
    have HFl := hid HGo.out.1
    clear HGo
    have HTC := hid (show ∀ k, kidsP K chain (k + 1) ls ks si = (if u4.1 = true then kidsP K chain k u2.1 (ks ++ [u3.1]) u4.2 else ((u2.1, ks ++ [u3.1]), u4.2)) from fun k => by
     conv => lhs; unfold kidsP
     simp only [← HU1.out, ← HU2.out, ← HU3.out, ← HU4.out])
    obtain ⟨bl, s4⟩ := u4
    simp only at HC HDl HSf4 HE4 HN4 HTC
    have HLx := hid (show u2.1.length ≤ (ks ++ [u3.1]).length from by
     rw [List.length_append, List.length_singleton]
     have := HLl0.out
     have := HLl1.out
     omega)
    cases bl
    ·go_wp2_with (go_at_call 86; (with_reducible refine HC.out.mono ?_); rintro e wn ⟨rfl, hk⟩; obtain ⟨Op, ha, hc, hn⟩ := At.call2 HSt2.out.at_ hk; have HSt3 := hid (show AmSt w wn O g L w.heap.size (w.heap.size + 1) kk Op s4 u2.1 (ks ++ [u3.1]) RK2 RL2 from ⟨ha, HSt2.out.x6.call2 hc hn, HSt2.out.x7.call2 hc hn, HSt2.out.gk.call2 hc hn, HSt2.out.gl.call2 hc hn, HSt2.out.nk, HSt2.out.nl⟩); clear hk ha hc hn; clear HC)
     go_roundg 0
     case measure => have := hm; have := Hpos.out; omega
     case rel =>
      refine ⟨false, u2.1, ks ++ [u3.1], RK2, RL2, Op, s4, rfl, fun h => (by cases h), HLx, hid (fun h => (by cases h)), hid (fun _ => ⟨?_, ?_⟩), hid ⟨HE4.out, HN4.out⟩, HSt3⟩
      ·rw [List.length_append, List.length_singleton]
       have := HFl.out
       omega
      ·obtain ⟨k, hk1, hk2⟩ := HTT.out
       obtain ⟨k', rfl⟩ : ∃ k', k = k' + 1 := ⟨k - 1, by have := Hpos.out; omega⟩
       rw [← hk2, HTC.out, if_neg (by decide)]
    ·go_wp2_with (go_at_call 86; (with_reducible refine HC.out.mono ?_); rintro e wn ⟨rfl, hk⟩; obtain ⟨Op, ha, hc, hn⟩ := At.call2 HSt2.out.at_ hk; have HSt3 := hid (show AmSt w wn O g L w.heap.size (w.heap.size + 1) kk Op s4 u2.1 (ks ++ [u3.1]) RK2 RL2 from ⟨ha, HSt2.out.x6.call2 hc hn, HSt2.out.x7.call2 hc hn, HSt2.out.gk.call2 hc hn, HSt2.out.gl.call2 hc hn, HSt2.out.nk, HSt2.out.nl⟩); clear hk ha hc hn; clear HC)
     have hlt : s4.ts.length < si.ts.length := by
      have h1 := HDl.out (by trivial)
      have h2 := HLc.out
      omega
     go_roundg (s4.ts.length)
     case measure => have := hm; omega
     case rel =>
      refine ⟨true, u2.1, ks ++ [u3.1], RK2, RL2, Op, s4, rfl, fun _ => Nat.le_refl _, HLx, hid (fun _ => ⟨?_, ?_⟩), hid (fun h => (by cases h)), hid ⟨HE4.out, HN4.out⟩, HSt3⟩
      ·rw [List.length_append, List.length_singleton]
       have := HFl.out
       omega
      ·obtain ⟨k, hk1, hk2⟩ := HTT.out
       obtain ⟨k', rfl⟩ : ∃ k', k = k' + 1 := ⟨k - 1, by have := Hpos.out; omega⟩
       refine ⟨k', by omega, ?_⟩
       rw [← hk2, HTC.out, if_pos (by trivial)]
end Go.Proofs.YtfcccfplmdjndaaGreat
