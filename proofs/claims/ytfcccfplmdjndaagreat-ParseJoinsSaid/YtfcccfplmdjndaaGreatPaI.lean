/- parse: a Record. -/
import Derived.Test.YtfcccfplmdjndaaGreatPaJ
import Derived.Deep.CutBlock
import Derived.Deep.RegionHeld3
namespace Go.Proofs.YtfcccfplmdjndaaGreat
set_option linter.unusedSimpArgs false
set_option linter.unusedVariables false
open Go.RowKit

variable {w w' w0 : World} {O O0 O' : Nat → Prop} {g : Nat} {L : List Tk} {s s' : RS}
theorem wpList_bld {P : Program} {ops : Array Oper} {rest : List Oper} {op : Oper} {a : Act} {w : World} {Q : Exit → Act → World → Prop} (hgd : op.guard = none) (t : TypeId) (parts : Array (Nat × Operand)) (ho : op.op = .build t parts) (cells : Array Value)
  (hb : P.built t (parts.map fun (i, x) => (i, a.eval x)).toList = some cells) (h : wpList P ops Q rest (a.put op.dst (.agg cells)) w) : wpList P ops Q (op :: rest) a w :=
 wpList_plain hgd fun K hK => by
  unfold Oper.wp
  have e : (execOp a.eval op).run P w = .ok (.value (.agg cells)) w := by
   unfold execOp
   simp only [ho]
   have := run_build (P := P) w t (parts.map fun (i, x) => (i, a.eval x)) cells hb
   simp [this]
  rw [e]
  exact hK _ _ h
def nvFs (fs : List FT) (R : SV) : NV := ⟨{ ntZ with k := 5, fs := fs }, SV.nil, SV.nil, R, SV.nil⟩
theorem add_one {deep : Nat} (hd : deep ≤ 10000000) (W : World) : (binOp .add 3 (.int .i64 (deep : Int)) (.int .i64 1)).run Tryz.prog W = .ok (.int .i64 ((deep : Int) + 1)) W := by
 go_simp
 rw [IntKind.wrap_i64]
 omega
theorem rw_own {base n sz : Nat} {T : TypeId} {S : SV} {xs : List Value} (h : w.ownsRow base T sz S.val n xs) (hz : 0 < sz) (hn : S.n = n) : Rw w (base ≤ ·) S xs := by
 obtain ⟨N, hN, hn2, hr⟩ := own_rw h
 obtain ⟨A, a, c⟩ := S
 obtain ⟨A2, a2, c2⟩ := N
 injection hN with e1 e2 e3
 subst e1 e2 e3
 exact hr
theorem node_fs {fs : List FT} {R : SV} (h : w.ownsRow w0.heap.size 64 5 R.val R.n (flatF fs)) (hl : fs.length ≤ 1048576) : NodeOk w (w0.heap.size ≤ ·) (nvFs fs R) ∧ Fits (nvFs fs R) := by
 have hn : R.n = fs.length := by
  have h1 := h.1
  rw [flatF_len] at h1
  omega
 refine ⟨⟨rfl, rfl, hn, rfl, Rw.nil _ _ _, Rw.nil _ _ _, rw_own h (by decide) rfl, Rw.nil _ _ _⟩, ⟨Nat.zero_le _, Nat.zero_le _, by show R.n ≤ _; omega, Nat.zero_le _⟩⟩
structure RcSt (w0 wr : World) (O0 : Nat → Prop) (g : Nat) (L : List Tk) (b4 b5 : Nat) (O : Nat → Prop) (s : RS) (fs : List FT) (R : SV) : Prop where
 at_ : At w0 O0 g L wr O s
 x4 : Bx w0 wr O b4 54 nvZ.cells
 x5 : Bx w0 wr O b5 54 (nvFs fs R).cells
 gr : Gr w0 wr O 64 5 R (flatF fs)
 nl : R.n = fs.length
set_option maxRecDepth 100000 in
set_option maxHeartbeats 8000000 in
theorem record_any {M deep : Nat} {K : RS → Int × RS} (hK : KOk M ((deep : Int) + 1) K L) (hS : ∀ s : RS, 0 < s.ts.length → Suf s (K s).2) (hd : deep ≤ 10000000) (h : RdX w O g L s) (he : EndS s) (hN : s.ts.length ≤ M) : Calls Tryz.prog 105 #[.pointer (some ⟨g, 0, none⟩), .int .i64 (deep : Int)] w fun e w' => NRes w.heap.size (recordP K s).1 e w' ∧ StG w O g L (recordP K s).2 w' := by
 have HA := hid (At.start h)
 obtain ⟨P, hP⟩ : ∃ P, P = recordP K s := ⟨_, rfl⟩
 have HQ := hid hP
 rw [← hP]
 have HK := hid hK
 have HS := hid hS
 have HEd := hid he
 have HNl := hid hN
 have HLe := hid h.le
 clear hP h hK he hN hS
 obtain ⟨ha, h4, h5⟩ := HA.out.two 54 nvZ.cells #[.int .i64 0, .int .i64 0, .bool false, .bool false, .bool false, .int .u64 0, .int .u64 0, .string ⟨#[]⟩, .string ⟨#[]⟩, .int .u64 0, .int .u64 0, .slice none 0 0, .slice none 0 0, .slice none 0 0, .string ⟨#[]⟩, .int .u64 0, .slice none 0 0, .int .i64 0] rfl 54 nvZ.cells #[.int .i64 0, .int .i64 0, .bool false, .bool false, .bool false, .int .u64 0, .int .u64 0, .string ⟨#[]⟩, .string ⟨#[]⟩, .int .u64 0, .int .u64 0, .slice none 0 0, .slice none 0 0, .slice none 0 0, .string ⟨#[]⟩, .int .u64 0, .slice none 0 0, .int .i64 0] rfl
 obtain ⟨X, hX⟩ : ∃ X, X = (nvFs [] SV.nil).cells.toArray := ⟨_, rfl⟩
 have hb5 := h5.bget
 have hszX : (Tryz.prog.info? 54).map (·.size) = some X.size := by rw [hX]; exact nv_size _
 have holX : nvZ.cells.toArray.size = X.size := by rw [hX]; rfl
 have honX : X.all (·.oneCell') = true := by rw [hX]; exact nv_one _
 have HSt := hid (show RcSt w (((w.alloc (.cells #[.int .i64 0, .int .i64 0, .bool false, .bool false, .bool false, .int .u64 0, .int .u64 0, .string ⟨#[]⟩, .string ⟨#[]⟩, .int .u64 0, .int .u64 0, .slice none 0 0, .slice none 0 0, .slice none 0 0, .string ⟨#[]⟩, .int .u64 0, .slice none 0 0, .int .i64 0] 54)).alloc (.cells #[.int .i64 0, .int .i64 0, .bool false, .bool false, .bool false, .int .u64 0, .int .u64 0, .string ⟨#[]⟩, .string ⟨#[]⟩, .int .u64 0, .int .u64 0, .slice none 0 0, .slice none 0 0, .slice none 0 0, .string ⟨#[]⟩, .int .u64 0, .slice none 0 0, .int .i64 0] 54)).setRow (w.heap.size + 1) X) O g L w.heap.size (w.heap.size + 1) O s [] SV.nil from ⟨ha.brow h5 X, h4.orow (fun e => by omega) X, by rw [hX]; exact h5.row, Gr.nil _ _ _ _ _, rfl⟩)
 have HXX := hid hX
 clear ha h4 h5 hX
 obtain ⟨T, hT⟩ : ∃ T, T = fieldsP K s.ts.length [] s := ⟨_, rfl⟩
 have HT := hid hT
 clear hT HA
 go_enter Tryz.func105, Tryz.ntmps105
 go_upto_region 2 with (first
  | (refine wpList_bld rfl 54 _ rfl X (by rw [HXX.out]; kernel_rfl) ?_)
  | (with_reducible refine wpList_store_row rfl 54 _ _ rfl (w.heap.size + 1) X rfl rfl 54 _ hb5 hszX holX honX ?_))
 clear hb5 hszX holX honX HXX
 generalize ((w.alloc (.cells #[.int .i64 0, .int .i64 0, .bool false, .bool false, .bool false, .int .u64 0, .int .u64 0, .string ⟨#[]⟩, .string ⟨#[]⟩, .int .u64 0, .int .u64 0, .slice none 0 0, .slice none 0 0, .slice none 0 0, .string ⟨#[]⟩, .int .u64 0, .slice none 0 0, .int .i64 0] 54)).alloc (.cells #[.int .i64 0, .int .i64 0, .bool false, .bool false, .bool false, .int .u64 0, .int .u64 0, .string ⟨#[]⟩, .string ⟨#[]⟩, .int .u64 0, .int .u64 0, .slice none 0 0, .slice none 0 0, .slice none 0 0, .string ⟨#[]⟩, .int .u64 0, .slice none 0 0, .int .i64 0] 54)).setRow (w.heap.size + 1) X = w1 at *
 go_upto_block 0 with fail
 go_wp2_with fail
 go_loopg [6] (s.ts.length + 1) (fun m t wr => ∃ (ok : Bool) (fs : List FT) (R' : SV) (Oi : Nat → Prop) (si : RS), t = .bool ok ∧ (ok = true → si.ts.length ≤ m) ∧ Hid (ok = true → fs.length + si.ts.length ≤ s.ts.length ∧ ∃ k, si.ts.length ≤ k ∧ fieldsP K k fs si = T) ∧ Hid (ok = false → fs.length ≤ s.ts.length + 1 ∧ T = (fs, si)) ∧ Hid (EndS si ∧ si.ts.length ≤ M) ∧ Hid (RcSt w wr O g L w.heap.size (w.heap.size + 1) Oi si fs R'))
 case atStart => exact ⟨true, [], SV.nil, O, s, rfl, fun _ => by omega, hid (fun _ => ⟨by simp, s.ts.length, Nat.le_refl _, HT.out.symm⟩), hid (fun h => (by cases h)), hid ⟨HEd.out, HNl.out⟩, HSt⟩
 case round =>
  clear HSt
  obtain ⟨ok, fs, R', Oi, si, rfl, hm, HGo, HStp, HEi, HSt⟩ := hrel
  cases ok
  ·clear hm HGo
   obtain ⟨Hfl, HTe⟩ := HStp.out rfl
   have HTe := hid HTe
   have HFl := hid Hfl
   clear Hfl HStp
   have HA := hid HSt.out.at_
   have HX4 := hid HSt.out.x4
   have HX5 := hid HSt.out.x5
   have HGF := hid HSt.out.gr
   clear HSt
   have HC := hid (show Calls Tryz.prog 53 #[.pointer (some ⟨g, 0, none⟩), .string ⟨#[125]⟩] _ (fun e w' => e = .returned (.tuple #[]) ∧ StG _ _ g L (signP [125] si) w') from sign_g HA.out.rd [125])
   have HRE := hid (show recordP K s = ({ ntZ with k := 5, fs := fs }, signP [125] si) from by
    unfold recordP
    rw [← HT.out, HTe.out])
   go_wp2_with (first
    | (go_at_call 53; (with_reducible refine HC.out.mono ?_); rintro e wk ⟨rfl, hk⟩; obtain ⟨Ok, ha, hc, hn⟩ := At.call2 HA.out hk; replace HA := hid ha; replace HX4 := hid (HX4.out.call2 hc hn); replace HX5 := hid (HX5.out.call2 hc hn); replace HGF := hid (HGF.out.call2 hc hn); clear hk ha hc hn; clear HC)
    | (with_reducible refine wpList_load_row rfl 54 _ rfl (w.heap.size + 1) rfl 54 (nvFs fs R').cells.toArray (0, 0) _ HX5.out.bget Tryz.underlying54 rfl (nv_size _) ?_)
    | (with_reducible refine wpList_store_row rfl 54 _ _ rfl (w.heap.size) (nvFs fs R').cells.toArray rfl rfl 54 _ HX4.out.bget (nv_size _) rfl (nv_one _) ?_))
   have hb2 := HX4.out.row (cs' := (nvFs fs R').cells)
   refine bodyPost_ret (v := (nvFs fs R').val) (results_cell_row (P := Tryz.prog) (fn := Tryz.f105) rfl _ _ w.heap.size 54 (nvFs fs R').cells.toArray (0, 0) _ rfl hb2.bget Tryz.underlying54 rfl (nv_size _)) rfl ?_
   rw [HQ.out, HRE.out]
   obtain ⟨k1, k2⟩ := node_fs (HGF.out.brow HX4.out (by decide) (nvFs fs R').cells.toArray).row (by have := HFl.out; have := HLe.out; omega)
   exact ⟨⟨_, rfl, rfl, k1, k2⟩, (HA.out.brow HX4.out _).stg⟩
  ·clear HStp
   replace hm := hm rfl
   have HGo := hid (HGo.out rfl)
   have hpos := HEi.out.1.pos
   have Hpos := hid hpos
   obtain ⟨Ra, Rn, Rc⟩ := R'
   have z5_11 : _ = some (Value.slice Ra Rn Rc) := HSt.out.x5.at 13
   have HA := hid HSt.out.at_
   have HX4 := hid HSt.out.x4
   have HX5 := hid HSt.out.x5
   have HGF := hid HSt.out.gr
   have HRn := hid HSt.out.nl
   have HRb := hid (show Rn ≤ 70000 from by have h1 := HSt.out.nl; have h2 := HGo.out.1; have h3 := HLe.out; simp only at h1; omega)
   clear HSt hpos
   have HC := hid (room_g HA.out.rd fs.length)
   rw [← show (Rn : Nat) = fs.length from HRn.out] at HC
   obtain ⟨u1, hu1⟩ : ∃ u, u = roomP fs.length si := ⟨_, rfl⟩
   have HU1 := hid hu1
   have HL1 := hid (show u1.ts = si.ts from by rw [hu1]; exact room_len _ _)
   rw [← show (Rn : Nat) = fs.length from HRn.out] at hu1
   rw [← hu1] at HC
   clear hu1
   have HE1 := hid (show EndS u1 from by obtain ⟨l, t, e, h5⟩ := HEi.out.1; exact ⟨l, t, by rw [HL1.out]; exact e, h5⟩)
   have HN1 := hid (show u1.ts.length ≤ M from by rw [HL1.out]; exact HEi.out.2)
   obtain ⟨u2, hu2⟩ : ∃ u, u = fieldP K u1 := ⟨_, rfl⟩
   have HU2 := hid hu2
   go_upto_block 1 with fail
   go_cut [] from 8 to 25 (fun wx => ∃ (R2 : SV) (O2 : Nat → Prop), Hid (RcSt w wx O g L w.heap.size (w.heap.size + 1) O2 u2.2 (fs ++ [u2.1]) R2))
   case first =>
    go_upto_region 6 with (go_at_call 116; (with_reducible refine HC.out.mono ?_); rintro e wk ⟨rfl, hk⟩; obtain ⟨Ok, ha, hc, hn⟩ := At.call2 HA.out hk; replace HA := hid ha; replace HX4 := hid (HX4.out.call2 hc hn); replace HX5 := hid (HX5.out.call2 hc hn); replace HGF := hid (HGF.out.call2 hc hn); clear hk ha hc hn; clear HC)
    clear z5_11
    have hdw := hd
    refine rc6_reg (bx := w.heap.size + 1) (g := g) (n := Rn) (c := Rc) (A := Ra) (dp := (deep : Int)) (kk := 0) (base := w.heap.size) (xs := flatF fs)
     (R1 := fun y wf => y = u2.1 ∧ ∃ Of, At w O g L wf Of u2.2 ∧ Bx w wf Of w.heap.size 54 nvZ.cells ∧ Bx w wf Of (w.heap.size + 1) 54 (nvFs fs ⟨Ra, Rn, Rc⟩).cells ∧ Gr w wf Of 64 5 ⟨Ra, Rn, Rc⟩ (flatF fs))
     (R4 := fun wx => ∃ (R2 : SV) (O2 : Nat → Prop), RcSt w wx O g L w.heap.size (w.heap.size + 1) O2 u2.2 (fs ++ [u2.1]) R2)
     rfl rfl rfl (by simp) (HX5.out.drew.at 13) (by have := HRb.out; omega) (fun W => add_one hd W) ?_ ?_ ?_ ?_
    ·have h := field_any HK.out HS.out hd HA.out.drew.rd HE1.out HN1.out
     rw [← hu2] at h
     refine h.mono ?_
     rintro e wf ⟨rfl, hk⟩
     obtain ⟨Of, ha, hc, hn⟩ := At.call2 HA.out.drew hk
     exact ⟨_, rfl, u2.1, rfl, rfl, Of, ha, HX4.out.drew.call2 hc hn, HX5.out.drew.call2 hc hn, HGF.out.drew.call2 hc hn⟩
    ·rintro y wf ⟨rfl, Of, ha, h4, h5, hg⟩
     exact ⟨h5.at 13, h5.free 13, hg.row, ha.size, h5.blk.lt⟩
    ·rintro y wf ⟨rfl, Of, ha, h4, h5, hg⟩ g9 c9 w9 hown hgr hat
     have ha' := ha.alloc (.cells (FT.cells u2.1).toArray 64)
     have h4' := h4.alloc (.cells (FT.cells u2.1).toArray 64)
     have h5' := h5.alloc (.cells (FT.cells u2.1).toArray 64)
     have hg' := hg.keep (al_below _ (.cells (FT.cells u2.1).toArray 64))
     have k1 := Gr.app hg' ha' hown hgr hat
     have k2 := hg'.at ha' hgr
     have k4 := hg'.bx h4' (by decide) hgr
     have k5 := hg'.bx h5' (by decide) hgr
     refine ⟨k5.at 13, k5.free 13, ⟨some ⟨g9, 0, none⟩, Rn + 1, c9⟩, Of, k2.bset k5 13 _, k4.other (fun e => by omega) 13 _, k5.put 13 (.slice (some ⟨g9, 0, none⟩) (Rn + 1) c9), ?_, ?_⟩
     ·have e1 : flatF (fs ++ [u2.1]) = flatF fs ++ FT.cells u2.1 := by simp [flatF]
      rw [e1]
      exact k1.bset k5 (by decide) 13 _
     ·show Rn + 1 = (fs ++ [u2.1]).length
      rw [List.length_append, show Rn = fs.length from HRn.out]
      rfl
    ·rintro f wx ⟨R2, O2, h4⟩
     simp only [rc6Us, List.foldl_cons, List.foldl_nil, List.setIfInBounds_toArray, List.set_cons_zero, List.set_cons_succ]
     have H4 := hid h4
     clear h4
     go_wp2_with fail
     go_meet
     exact ⟨R2, O2, H4⟩
   case rest =>
    obtain ⟨R2, O2, HSt2⟩ := hcut
    clear HA HX4 HX5 HGF
    have HU2' := hid hu2
    have HSf := hid (suf_field HS.out (show 0 < u1.ts.length from HE1.out.pos))
    have HDc := hid (dec_field HS.out (show 0 < u1.ts.length from HE1.out.pos))
    rw [← hu2] at HSf HDc
    clear hu2
    have HE2 := hid (HE1.out.suf HSf.out)
    have hl1 : u1.ts.length = si.ts.length := by rw [HL1.out]
    have HN2 := hid (Nat.le_trans HSf.out.le HN1.out)
    have HLl := hid (And.intro hl1 HSf.out.le)
    clear hl1
    obtain ⟨p, hnx⟩ := next_g HSt2.out.at_.rd
    have HC := hid hnx
    have q0 := tok_0 (nxt u2.2).1 p (nxt u2.2).2
    clear hnx
    have HTT := hid HGo.out.2
    have HFl := hid HGo.out.1
    clear HGo
    by_cases hk : (nxt u2.2).1 = 1
    ·have hkb : (((nxt u2.2).1 : Int) == 1) = true := by simpa using (show ((nxt u2.2).1 : Int) = 1 by omega)
     have HK2 := hid hk
     clear hk
     go_wp2_with (go_at_call 51; (with_reducible refine HC.out.mono ?_); rintro e wn ⟨rfl, hk⟩; obtain ⟨On, ha, hc, hn⟩ := At.call2 HSt2.out.at_ hk; have HSt3 := hid (show RcSt w wn O g L w.heap.size (w.heap.size + 1) On u2.2 (fs ++ [u2.1]) R2 from ⟨ha, HSt2.out.x4.call2 hc hn, HSt2.out.x5.call2 hc hn, HSt2.out.gr.call2 hc hn, HSt2.out.nl⟩); clear hk ha hc hn; clear HC)
     have hlt : u2.2.ts.length < si.ts.length := by
      have h1 := HDc.out.less HE2.out (by rw [HK2.out]; decide)
      have h2 := HLl.out.1
      omega
     go_roundg (u2.2.ts.length)
     case measure => have := hm; omega
     case rel =>
      refine ⟨true, fs ++ [u2.1], R2, On, u2.2, rfl, fun _ => Nat.le_refl _, hid (fun _ => ⟨?_, ?_⟩), hid (fun h => (by cases h)), hid ⟨HE2.out, HN2.out⟩, HSt3⟩
      ·rw [List.length_append, List.length_singleton]
       have := HFl.out
       omega
      ·obtain ⟨k, hk1, hk2⟩ := HTT.out
       obtain ⟨k', rfl⟩ : ∃ k', k = k' + 1 := ⟨k - 1, by omega⟩
       refine ⟨k', by omega, ?_⟩
       rw [← hk2]
       show _ = fieldsP K (k' + 1) fs si
       conv => rhs; unfold fieldsP
       simp only [← HU1.out, ← HU2.out, HK2.out]
       rfl
    ·have hkb : (((nxt u2.2).1 : Int) == 1) = false := by simpa using (show ¬ ((nxt u2.2).1 : Int) = 1 by omega)
     have HK2 := hid hk
     clear hk
     go_wp2_with (go_at_call 51; (with_reducible refine HC.out.mono ?_); rintro e wn ⟨rfl, hk⟩; obtain ⟨On, ha, hc, hn⟩ := At.call2 HSt2.out.at_ hk; have HSt3 := hid (show RcSt w wn O g L w.heap.size (w.heap.size + 1) On u2.2 (fs ++ [u2.1]) R2 from ⟨ha, HSt2.out.x4.call2 hc hn, HSt2.out.x5.call2 hc hn, HSt2.out.gr.call2 hc hn, HSt2.out.nl⟩); clear hk ha hc hn; clear HC)
     go_roundg 0
     case measure => have := hm; have := Hpos.out; omega
     case rel =>
      refine ⟨false, fs ++ [u2.1], R2, On, u2.2, rfl, fun h => (by cases h), hid (fun h => (by cases h)), hid (fun _ => ⟨?_, ?_⟩), hid ⟨HE2.out, HN2.out⟩, HSt3⟩
      ·rw [List.length_append, List.length_singleton]
       have := HFl.out
       omega
      ·obtain ⟨k, hk1, hk2⟩ := HTT.out
       obtain ⟨k', rfl⟩ : ∃ k', k = k' + 1 := ⟨k - 1, by have := Hpos.out; omega⟩
       rw [← hk2]
       conv => lhs; unfold fieldsP
       simp only [← HU1.out, ← HU2.out]
       rw [if_neg HK2.out]
end Go.Proofs.YtfcccfplmdjndaaGreat
