/- tree: write, Text. -/
import Derived.Test.YtdhipmdapodpkaaTrW
import Derived.Test.YtdhipmdapodpkaaTrBl
import Derived.Test.YtdhipmdapodpkaaDig
import Derived.Test.YtdhipmdapodpkaaTrC
import Derived.Deep.CutRange
import Derived.Deep.CutBlock
namespace Go.Proofs.Ytdhipmdapodpkaa
set_option linter.unusedSimpArgs false
set_option linter.unusedVariables false
open Go.RowKit

/-- What a step of writing leaves. -/
structure Wrt1 (base b : Nat) (w : World) (l : List UInt8) (W : World) : Prop where
  bld : Bld W base b l
  bel : Below base w W
  oth : Oth b w W
theorem Wrt1.refl {base b : Nat} {w : World} {l : List UInt8} (h : Bld w base b l) : Wrt1 base b w l w := ⟨h, Below.refl _ _, Lib.OthersKept.refl _ _ _⟩
theorem Wrt1.trans {base b : Nat} {w W X : World} {l l' : List UInt8} (h : Wrt1 base b w l W) (h2 : Wrt1 base b W l' X) : Wrt1 base b w l' X := ⟨h2.bld, h.bel.trans h2.bel, h.oth.trans h2.oth⟩
theorem oth_below {b : Nat} {w W X : World} (h : Oth b w W) (hb : Below W.heap.size W X) : Oth b w X := fun k o hk hn ho => by
  have h1 := h k o hk hn ho
  exact (hb.block k (Array.getElem?_eq_some_iff.1 h1).1).trans h1
theorem Wrt1.below {base b : Nat} {w W X : World} {l : List UInt8} (h : Wrt1 base b w l W) (hb : Below W.heap.size W X) (hB : base ≤ W.heap.size) : Wrt1 base b w l X := ⟨h.bld.below hb, h.bel.trans (hb.mono hB), oth_below h.oth hb⟩
/-- A box is kept. -/
theorem Wrt1.box {base b : Nat} {w W : World} {l : List UInt8} {g : Nat} {cs : List Value} (h : Wrt1 base b w l W) (hk : Blk w g 26 cs) (hg : g ≠ b) : Blk W g 26 cs :=
  h.oth _ _ hk (fun e => by injection e with e; exact hg e) (fun c fz e => by injection e with _ e; exact absurd e (by decide))
theorem Wrt1.byte {base b : Nat} {w W : World} {l : List UInt8} (h : Wrt1 base b w l W) (c : Nat) (hc : c < 256) (hl : l.length + 1 ≤ 4294967296) (hB : base ≤ w.heap.size) :
    Calls Try.prog 38 #[.pointer (some ⟨b, 0, none⟩), .int .u8 (c : Int)] W fun e w' => e = .returned .nilIface ∧ Wrt1 base b w (l ++ [c.toUInt8]) w' :=
  (wb_any h.bld c hc hl (Nat.le_trans hB h.bel.size)).mono fun e w' ⟨h1, h2, h3, h4⟩ => ⟨h1, h.trans ⟨.inr h2, h3, h4⟩⟩
theorem Wrt1.str {base b : Nat} {w W : World} {l : List UInt8} (h : Wrt1 base b w l W) (s : List UInt8) (hl : l.length + s.length ≤ 4294967296) (hB : base ≤ w.heap.size) :
    Calls Try.prog 39 #[.pointer (some ⟨b, 0, none⟩), .string ⟨s.toArray⟩] W fun e w' => e = .returned (.tuple #[.int .i64 (s.length : Int), .nilIface]) ∧ Wrt1 base b w (l ++ s) w' :=
  (ws_any h.bld s hl (Nat.le_trans hB h.bel.size)).mono fun e w' ⟨h1, h2, h3, h4⟩ => ⟨h1, h.trans ⟨.inr h2, h3, h4⟩⟩
theorem cell_keep {w w' : World} {b o : Nat} (hb : w'.heap[b]? = w.heap[b]?) : w'.cell? ⟨b, o, none⟩ = w.cell? ⟨b, o, none⟩ := World.cell?_of_block (w := w) (w' := w') (a := ⟨b, o, none⟩) hb
theorem hexS_take {d : List UInt8} {q : Nat} (h : q < d.length) : hexS (d.take (q + 1)) = hexS (d.take q) ++ ((if q = 0 then [58] else []) ++ [hexD (d[q].toNat / 16), hexD (d[q].toNat % 16)]) := by
  rw [List.take_add_one, List.getElem?_eq_getElem h, Option.toList_some, hexS_snoc]
  cases d with
  | nil => simp at h
  | cons a d =>
    cases q with
    | zero => rfl
    | succ q => simp
theorem hexS_take_len (d : List UInt8) (q : Nat) : (hexS (d.take q)).length ≤ (hexS d).length := by
  have hl : ∀ d : List UInt8, (hexS d).length = if d.isEmpty = true then 0 else 1 + 2 * d.length := by
    intro d
    unfold hexS
    split
    · rfl
    · have : ∀ d : List UInt8, (hexL d).length = 2 * d.length := by
        intro d
        induction d with
        | nil => rfl
        | cons c d ih => unfold hexL at *; rw [List.flatMap_cons, List.length_append, ih]; simp only [List.length_cons, List.length_nil]; omega
      rw [List.length_cons, this]
      omega
  rw [hl, hl, List.length_take]
  cases d with
  | nil => simp
  | cons a d =>
    cases q with
    | zero => simp
    | succ q => simp; omega
abbrev hexBA : ByteArray := ⟨#[48, 49, 50, 51, 52, 53, 54, 55, 56, 57, 97, 98, 99, 100, 101, 102]⟩
theorem hex_at (k : Nat) (hk : k < hexBA.size) : hexBA[k] = hexD k := by
  have : k < 16 := hk
  have : k = 0 ∨ k = 1 ∨ k = 2 ∨ k = 3 ∨ k = 4 ∨ k = 5 ∨ k = 6 ∨ k = 7 ∨ k = 8 ∨ k = 9 ∨ k = 10 ∨ k = 11 ∨ k = 12 ∨ k = 13 ∨ k = 14 ∨ k = 15 := by omega
  rcases this with rfl | rfl | rfl | rfl | rfl | rfl | rfl | rfl | rfl | rfl | rfl | rfl | rfl | rfl | rfl | rfl <;> rfl
theorem Wrt1.hex {base b : Nat} {w W : World} {l : List UInt8} (h : Wrt1 base b w l W) (k : Nat) (hk : k < hexBA.size) (hl : l.length + 1 ≤ 4294967296) (hB : base ≤ w.heap.size) :
    Calls Try.prog 38 #[.pointer (some ⟨b, 0, none⟩), .int .u8 ((hexBA[k]).toNat : Int)] W fun e w' => e = .returned .nilIface ∧ Wrt1 base b w (l ++ [hexD k]) w' := by
  rw [hex_at k hk]
  have := h.byte (hexD k).toNat (hexD k).toNat_lt hl hB
  rwa [show (hexD k).toNat.toUInt8 = hexD k by simp] at this
theorem byte_back (c : UInt8) : c.toNat.toUInt8 = c := by simp
theorem byte_cell {w : World} {P : Nat → Prop} {s : SV} {d : List UInt8} (h : Rw w P s (d.map isB)) {q : Nat} (hq : q < d.length) : ∃ b o, s.A = some ⟨b, o, none⟩ ∧ b < w.heap.size ∧ P b ∧ w.cell? ⟨b, o + q, none⟩ = some (.int .u8 (d[q].toNat : Int)) := by
  obtain ⟨b, o, e, hb, hP, hc⟩ := h.at (by simp; omega)
  exact ⟨b, o, e, hb, hP, by rw [hc q (by simpa using hq)]; simp [hq, isB]⟩
/-- What write promises of a tree. -/
def WrAt (t : TT) : Prop := ∀ (v : TV) (w : World) (base b : Nat) (l : List UInt8), Bld w base b l → Rep w (· < base) v t → base ≤ w.heap.size → wT t ≤ 1048576 → l.length + (textT t).length ≤ 1000000000 →
  Calls Try.prog 26 #[.pointer (some ⟨b, 0, none⟩), v.val] w fun e w' => e = .returned (.tuple #[]) ∧ Wrt1 base b w (l ++ textT t) w'
set_option maxRecDepth 100000 in
set_option maxHeartbeats 8000000 in
theorem write_any : ∀ t, WrAt t := by
  refine TT.ind fun nn bb d ks ih => ?_
  intro v w base b l h hR hB hw hl
  rw [wT] at hw
  have hwl := wL_len ks
  obtain ⟨rfl, rfl, hnum, hdn, hD, hkn, xs, hxl, hK, hr⟩ := hR.inv
  obtain ⟨hb, hN⟩ := box_new w v
  have hbb := h.lt
  have HW0 := hid ((Wrt1.refl h).below hb hB)
  have HX0 := hid hN
  have HIh := hid ih
  have HD := hid (And.intro hD hdn)
  have HK := hid (show RepL w (· < base) v.K ks xs from ⟨hkn, hxl, hK, hr⟩)
  have HWt := hid hw
  have HDig := hid (show ∀ W : World, Calls Try.prog 40 #[.int .u64 (v.num : Int)] W (fun e w' => e = .returned (.string ⟨(decL v.num).toArray⟩) ∧ Below W.heap.size W w') from fun W => (digits_any v.num hnum W).mono fun e w' hh => by
    obtain ⟨k, hk, _, he, hb⟩ := hh
    exact ⟨by rw [he, isLen_one hk (lenN_isLen _)]; rfl, hb⟩)
  obtain ⟨TX, hTX⟩ : ∃ TX, TX = textT (.nd v.num v.bl d ks) := ⟨_, rfl⟩
  rw [← hTX] at hl ⊢
  obtain ⟨TB, hTB⟩ : ∃ TB : List UInt8, TB = if v.bl = true then [95] else [] := ⟨_, rfl⟩
  have hTXe : TX = TB ++ (decL v.num ++ (hexS d ++ (if ks.isEmpty = true then [] else textS 40 ks ++ [41]))) := by rw [hTX, textT, hTB]
  have HTX := hid hTXe
  have HTB := hid hTB
  have HLe := hid (show l.length + (TB.length + ((decL v.num).length + ((hexS d).length + (if ks.isEmpty = true then ([] : List UInt8) else textS 40 ks ++ [41]).length))) ≤ 1000000000 by rw [hTXe] at hl; simpa only [List.length_append] using hl)
  obtain ⟨RR, hRR⟩ : ∃ RR : Ending → World → Prop, RR = fun e w' => e = .returned (.tuple #[]) ∧ Wrt1 base b w (l ++ TX) w' := ⟨_, rfl⟩
  rw [← hRR]
  have HRR := hid hRR
  have HBl := hid hbb
  have hvc : v.cells.toArray = #[.int .u64 (v.num : Int), .bool v.bl, .slice v.D.A v.D.n v.D.c, .slice v.K.A v.K.n v.K.c] := rfl
  rw [hvc] at HW0 HX0
  have hnb : v.K.n ≤ 1048576 := by omega
  have hdb : v.D.n ≤ 1048576 := by omega
  have HLb := hid (And.intro hdn hkn)
  obtain ⟨x0, x1, x2, x3⟩ := BoxT.four HX0.out
  clear hRR hTX hTXe hTB hb hN h hR ih hD hdn hkn hxl hK hr hvc hw hwl hl hnum hbb
  unfold TV.val
  obtain ⟨num, bl, ⟨DA, dn, Dc⟩, ⟨KA, n, Kc⟩⟩ := v
  simp only at *
  go_enter Try.func26, Try.ntmps26
  go_upto_region 1 with (fail)
  generalize w.alloc (.cells #[.int .u64 (num : Int), .bool bl, .slice DA dn Dc, .slice KA n Kc] 26) = w1 at *
  go_upto_if 10 with (fail)
  have HV0 := hid (Wrt1.refl HW0.out.bld)
  have hB1 : base ≤ w1.heap.size := Nat.le_trans hB HW0.out.bel.size
  go_cut [] from 11 to 12 (fun wx => Hid (Wrt1 base b w1 (l ++ TB) wx))
  case first =>
    cases bl
    · have hTB0 : TB = [] := by rw [HTB.out]; rfl
      go_wp2_with fail
      go_meet
      exact hid (by rw [hTB0, List.append_nil]; exact HV0.out)
    · have hTB0 : TB = [95] := by rw [HTB.out]; rfl
      have HWb := hid (show Calls Try.prog 38 #[.pointer (some ⟨b, 0, none⟩), .int .u8 95] w1 _ from HV0.out.byte 95 (by decide) (by have := HLe.out; omega) hB1)
      go_wp2_with (go_at_call 38; (with_reducible refine HWb.out.mono ?_); rintro e w2 ⟨rfl, hw2⟩; have HW2 := hid hw2; clear hw2)
      go_meet
      exact hid (by rw [hTB0]; exact HW2.out)
  case rest =>
    clear x0 x1 x2 x3 HTB
    have hgb := hid (show w.heap.size ≠ b by have := HBl.out; omega)
    obtain ⟨x0, x1, x2, x3⟩ := BoxT.four (v := ⟨num, bl, ⟨DA, dn, Dc⟩, ⟨KA, n, Kc⟩⟩) (hcut.out.box HX0.out hgb.out)
    simp only at x0 x1 x2 x3
    obtain ⟨TK, hTK⟩ : ∃ TK : List UInt8, TK = if ks.isEmpty = true then [] else textS 40 ks ++ [41] := ⟨_, rfl⟩
    rw [← hTK] at HTX HLe
    have HTK := hid hTK
    obtain ⟨L1, hL1⟩ : ∃ L1, L1 = (l ++ TB) ++ decL num := ⟨_, rfl⟩
    have HTX1 := hid (show l ++ TX = L1 ++ (hexS d ++ TK) by rw [HTX.out, hL1]; simp only [List.append_assoc])
    have HLe1 := hid (show L1.length + ((hexS d).length + TK.length) ≤ 1000000000 by rw [hL1]; simp only [List.length_append]; have := HLe.out; omega)
    have hl3 : (l ++ TB).length + (decL num).length ≤ 4294967296 := by simp only [List.length_append]; have := HLe.out; omega
    have HL3 := hid hl3
    have HL1 := hid hL1
    clear hTK hL1 hl3
    go_upto_region 4 with (first
      | (go_at_call 40; (with_reducible refine (HDig.out _).mono ?_); rintro e wd ⟨rfl, hbd⟩; have HWd := hid (hcut.out.below hbd (Nat.le_trans hB1 hcut.out.bel.size)); clear hbd)
      | (go_at_call 39; (with_reducible refine (HWd.out.str (decL num) HL3.out hB1).mono ?_); rintro e ws ⟨rfl, hws⟩; have HWs := hid hws; clear hws x0 x1 x2 x3))
    rw [← HL1.out] at HWs
    clear hcut HWd HL1 HL3 HLe HTX HDig
    obtain ⟨x0, x1, x2, x3⟩ := BoxT.four (v := ⟨num, bl, ⟨DA, dn, Dc⟩, ⟨KA, n, Kc⟩⟩) (HWs.out.box HX0.out hgb.out)
    simp only at x0 x1 x2 x3
    go_wp2_with fail
    go_loopw [21] (fun i wr => ∃ q : Nat, q ≤ dn ∧ i = .int .i64 q ∧ Hid (Wrt1 base b w1 (L1 ++ hexS (d.take q)) wr)) (fun i _ => dn - (intOf i).toNat)
    case atStart => exact ⟨0, by omega, rfl, hid (by rw [List.take_zero, show hexS [] = [] from rfl, List.append_nil]; exact HWs.out)⟩
    case round =>
      clear x0 x1 x2 x3 HWs
      obtain ⟨q, hq, rfl, HWq⟩ := hrel
      by_cases hlt : q < dn
      · have hlt' : (q : Int) < (dn : Int) := by omega
        have hqd : q < d.length := by rw [← HLb.out.1]; exact hlt
        obtain ⟨b1, o1, hA, hb1, hP1, hc1⟩ := byte_cell HD.out.1 hqd
        have hA' : DA = some ⟨b1, o1, none⟩ := hA
        have hcell := (cell_keep (o := o1 + q) ((HW0.out.bel.trans HWq.out.bel).block b1 hP1)).trans hc1
        have HTq := hid (hexS_take hqd)
        have HTl := hid (hexS_take_len d (q + 1))
        obtain ⟨c, hc⟩ : ∃ c : Nat, c = d[q].toNat := ⟨_, rfl⟩
        have hcl : c < 256 := by rw [hc]; exact d[q].toNat_lt
        rw [← hc] at HTq hcell
        clear hA hb1 hP1 hc1 hqd hc
        obtain ⟨LQ, hLQ⟩ : ∃ LQ, LQ = L1 ++ hexS (d.take q) := ⟨_, rfl⟩
        have HLq := hid (show L1 ++ hexS (d.take (q + 1)) = LQ ++ ((if q = 0 then [58] else []) ++ [hexD (c / 16), hexD (c % 16)]) by rw [HTq.out, hLQ, List.append_assoc])
        have HLl := hid (show LQ.length + 3 ≤ 4294967296 by
          have h1 := congrArg List.length HLq.out
          simp only [List.length_append, List.length_cons, List.length_nil] at h1
          have := HLe1.out
          have := HTl.out
          omega)
        rw [← hLQ] at HWq
        clear hLQ HTq HTl
        rw [hA']
        have HQ1 := hid (show c / 16 < hexBA.size from (by omega : c / 16 < 16))
        have HQ2 := hid (show c % 16 < hexBA.size from (by omega : c % 16 < 16))
        by_cases hq0 : q = 0
        · rw [if_pos hq0] at HLq
          have hcell0 : wr.cell? ⟨b1, o1, none⟩ = some (.int .u8 (c : Int)) := by have := hcell; rwa [hq0, Nat.add_zero] at this
          go_wp2_with (first
            | (go_at_call 38; (with_reducible refine (show Calls Try.prog 38 #[.pointer (some ⟨b, 0, none⟩), .int .u8 58] wr _ from HWq.out.byte 58 (by decide) (by have := HLl.out; omega) hB1).mono ?_); rintro e wa ⟨rfl, hwa⟩; have HWa := hid hwa; clear hwa)
            | (go_at_call 38; (with_reducible refine (HWa.out.hex (c / 16) HQ1.out (by have := HLl.out; (try simp only [List.length_append, List.length_cons, List.length_nil]); omega) hB1).mono ?_); rintro e wb ⟨rfl, hwb⟩; have HWb := hid hwb; clear hwb)
            | (go_at_call 38; (with_reducible refine (HWb.out.hex (c % 16) HQ2.out (by have := HLl.out; (try simp only [List.length_append, List.length_cons, List.length_nil]); omega) hB1).mono ?_); rintro e wd ⟨rfl, hwd⟩; have HWd := hid hwd; clear hwd))
          exact ⟨⟨1, by omega, rfl, hid (by rw [show q + 1 = 1 by omega] at HLq; rw [HLq.out]; have h := HWd.out; simpa only [List.append_assoc, List.cons_append, List.nil_append, show Nat.toUInt8 58 = (58 : UInt8) from rfl] using h)⟩, by simp [intOf]; omega⟩
        · have hq0i : ¬ (q : Int) = 0 := by omega
          rw [if_neg hq0] at HLq
          have HWa := HWq
          go_wp2_with (first
            | (go_at_call 38; (with_reducible refine (HWa.out.hex (c / 16) HQ1.out (by have := HLl.out; (try simp only [List.length_append, List.length_cons, List.length_nil]); omega) hB1).mono ?_); rintro e wb ⟨rfl, hwb⟩; have HWb := hid hwb; clear hwb)
            | (go_at_call 38; (with_reducible refine (HWb.out.hex (c % 16) HQ2.out (by have := HLl.out; (try simp only [List.length_append, List.length_cons, List.length_nil]); omega) hB1).mono ?_); rintro e wd ⟨rfl, hwd⟩; have HWd := hid hwd; clear hwd))
          exact ⟨⟨q + 1, by omega, by go_num, hid (by rw [HLq.out]; have h := HWd.out; simpa only [List.append_assoc, List.cons_append, List.nil_append, show Nat.toUInt8 58 = (58 : UInt8) from rfl] using h)⟩, by simp [intOf]; omega⟩
      · obtain rfl : q = dn := by omega
        have e : d.take q = d := by rw [HLb.out.1, List.take_length]
        rw [e] at HWq
        clear e
        obtain ⟨L2, hL2⟩ : ∃ L2, L2 = L1 ++ hexS d := ⟨_, rfl⟩
        rw [← hL2] at HWq
        have HTX2 := hid (show l ++ TX = L2 ++ TK by rw [HTX1.out, hL2, List.append_assoc])
        have HLe2 := hid (show L2.length + TK.length ≤ 1000000000 by rw [hL2, List.length_append]; have := HLe1.out; omega)
        clear hL2 HTX1 HLe1
        obtain ⟨x0, x1, x2, x3⟩ := BoxT.four (v := ⟨num, bl, ⟨DA, q, Dc⟩, ⟨KA, n, Kc⟩⟩) (HWq.out.box HX0.out hgb.out)
        simp only at x0 x1 x2 x3
        by_cases hn0 : n = 0
        · have HE := hid (show l ++ TX = L2 by rw [HTX2.out, HTK.out, List.length_eq_zero_iff.1 (show ks.length = 0 by rw [← HLb.out.2]; exact hn0)]; simp)
          go_wp2_with fail
          go_end0
          show RR (.returned (.tuple #[])) wr
          rw [HRR.out]
          exact ⟨rfl, by rw [HE.out]; exact HW0.out.trans HWq.out⟩
        · have hn0i : ¬ (n : Int) = 0 := by omega
          have HTK2 := hid (show TK = textS 40 ks ++ [41] by rw [HTK.out, if_neg]; intro h; rw [List.isEmpty_iff] at h; rw [h] at HLb; exact hn0 HLb.out.2)
          have HLe3 := hid (show L2.length + ((textS 40 ks).length + 1) ≤ 1000000000 by have h := HLe2.out; rw [HTK2.out, List.length_append] at h; exact h)
          go_wp2_with fail
          clear x0 x1 x2 x3
          have HN := hid (show n = ks.length from HLb.out.2)
          have H1 := HK
          have HWl := hid (show wL ks ≤ 1048576 by have := HWt.out; omega)
          have hWq := HWq
          rw [show ((n : Int) == 0) = false by simpa using hn0]
          clear HWt HLe2
          go_loopw [6, 48] (fun sg i wr => ∃ q s : Nat, q ≤ n ∧ sg = .int .u8 (s : Int) ∧ s = (if q = 0 then 40 else 44) ∧ i = .int .i64 q ∧ Hid (Wrt1 base b w1 (L2 ++ textS 40 (ks.take q)) wr)) (fun _ i _ => n - (intOf i).toNat)
          case atStart => exact ⟨0, 40, by omega, rfl, rfl, rfl, hid (by rw [List.take_zero, show textS 40 [] = [] from rfl, List.append_nil]; exact hWq.out)⟩
          case round =>
            clear HWq hWq
            obtain ⟨q, s, hq, rfl, hs, rfl, HWr⟩ := hrel
            have hs2 : s < 256 := by rw [hs]; split <;> omega
            have HS2 := hid hs2
            have HSu := hid (show [s.toUInt8] = ([if q = 0 then 40 else 44] : List UInt8) by rw [hs]; split <;> rfl)
            clear hs hs2
            have hBr : base ≤ wr.heap.size := Nat.le_trans hB1 HWr.out.bel.size
            by_cases hlt : q < n
            · have hlt' : (q : Int) < (n : Int) := by omega
              have HB := hid (HW0.out.bel.trans HWr.out.bel)
              have hk1 : q < ks.length := by rw [← HN.out]; exact hlt
              have hq1 : q < xs.length := by rw [H1.out.l]; exact hk1
              obtain ⟨b1, o1, hA, hbl, hP1, g1⟩ := Rw.range H1.out.r hq1
              have hA' : KA = some ⟨b1, o1, none⟩ := hA
              have HR1 := hid (H1.out.each q hq1 hk1)
              obtain ⟨y, hy⟩ : ∃ y, y = xs[q] := ⟨_, rfl⟩
              obtain ⟨u, hu⟩ : ∃ u, u = ks[q] := ⟨_, rfl⟩
              rw [← hy] at g1 HR1
              rw [← hu] at HR1
              have HU := hid hu
              have g1' := range_keep g1 (HB.out.block b1 hP1)
              have hbx := row_new wr 26 #[.int .u64 0, .bool false, .slice none 0 0, .slice none 0 0] y.cells.toArray
              have hX4 : Blk ((wr.alloc (.cells #[.int .u64 0, .bool false, .slice none 0 0, .slice none 0 0] 26)).setRow wr.heap.size y.cells.toArray) wr.heap.size 26 y.cells := setRow_heap _ _ _ _ _ (0, 0) (heap_alloc_new wr _)
              obtain ⟨W4, hW4⟩ : ∃ W4, W4 = (wr.alloc (.cells #[.int .u64 0, .bool false, .slice none 0 0, .slice none 0 0] 26)).setRow wr.heap.size y.cells.toArray := ⟨_, rfl⟩
              rw [← hW4] at hbx hX4
              have hB4 := HB.out.trans (hbx.mono hBr)
              obtain ⟨e0, e1, e2, e3⟩ := tv_range g1'
              have hx4 : BoxT W4 wr.heap.size y := hX4
              obtain ⟨z0, z1, z2, z3⟩ := hx4.four
              have HB4 := hid hB4
              have HX4 := hid hx4
              have HBx := hid hbx
              have HW4 := hid hW4
              have HSf := hid (tv_size y)
              have HOf := hid (tv_one y)
              have HR4 := hid (HR1.out.mono (fun b hP _ => hB4.block b hP) hB4.size (fun _ h _ => h))
              have hwu : wT u ≤ 1048576 := by rw [hu]; exact Nat.le_trans (wL_get hk1) HWl.out
              have HWu := hid hwu
              have HT := hid (textS_take hk1)
              have HTl := hid (textS_len ks (q + 1))
              rw [← hu] at HT
              have HCl := hid (HIh.out u (by rw [hu]; exact List.getElem_mem _) y)
              unfold TV.val at HCl
              have HA4 := hid (Wrt1.refl (HWr.out.bld.below hbx))
              have HW5 := hid (HWr.out.below hbx hBr)
              clear hP1 hbx hX4 hB4 hW4 g1 g1' hbl hA hy hu hx4 hwu HR1
              rw [hA']
              obtain ⟨LQ, hLQ⟩ : ∃ LQ, LQ = L2 ++ textS 40 (ks.take q) := ⟨_, rfl⟩
              rw [← hLQ] at HA4 HW5
              have HLq := hid (show L2 ++ textS 40 (ks.take (q + 1)) = (LQ ++ [s.toUInt8]) ++ textT u by rw [HT.out, HSu.out, hLQ]; simp only [List.append_assoc, List.cons_append, List.nil_append])
              have HLl := hid (show (LQ ++ [s.toUInt8]).length + (textT u).length ≤ 1000000000 by
                have h1 := congrArg List.length HLq.out
                rw [List.length_append, List.length_append (bs := textT u)] at h1
                have := HLe3.out
                have := HTl.out
                omega)
              have HLm := hid (show LQ.length + 1 ≤ 4294967296 by have h := HLl.out; rw [List.length_append, List.length_cons, List.length_nil] at h; omega)
              have hB5 : base ≤ W4.heap.size := Nat.le_trans hBr HBx.out.size
              have HKb := hid (show wr.heap.size ≠ b by have := HWr.out.bld.lt; omega)
              clear hLQ HT HTl HSu HWr HB HB4 HBx
              go_wp2_with (first
                | ((with_reducible refine wpList_store_row rfl 26 _ _ rfl wr.heap.size y.cells.toArray ?_ ?_ 26 #[.int .u64 0, .bool false, .slice none 0 0, .slice none 0 0] (heap_alloc_new wr _) HSf.out ?_ HOf.out ?_); exact rfl; exact rfl; exact rfl; rw [← HW4.out])
                | (go_at_call 38; (with_reducible refine (HA4.out.byte s HS2.out HLm.out hB5).mono ?_); rintro e wa ⟨rfl, hwa⟩; have HWa := hid hwa; have HXa := hid (show BoxT wa wr.heap.size y from hwa.box HX4.out HKb.out); clear hwa z0 z1 z2 z3; obtain ⟨z0, z1, z2, z3⟩ := HXa.out.four)
                | (go_at_call 26; (with_reducible refine (HCl.out wa base b (LQ ++ [s.toUInt8]) HWa.out.bld (HR4.out.mono (fun b hP _ => HWa.out.bel.block b hP) HWa.out.bel.size (fun _ h _ => h)) (Nat.le_trans hB5 HWa.out.bel.size) HWu.out HLl.out).mono ?_); rintro e wb ⟨rfl, hwb⟩; have HWb := hid hwb; clear hwb z0 z1 z2 z3 e0 e1 e2 e3))
              exact ⟨⟨q + 1, 44, by omega, rfl, by rw [if_neg (by omega)], by go_num, hid (by rw [HLq.out]; exact HW5.out.trans (HWa.out.trans HWb.out))⟩, by simp [intOf]; omega⟩
            · obtain rfl : q = n := by omega
              have e : ks.take q = ks := by rw [HN.out, List.take_length]
              rw [e] at HWr
              clear e
              have HWc := hid (show Calls Try.prog 38 #[.pointer (some ⟨b, 0, none⟩), .int .u8 41] wr _ from HWr.out.byte 41 (by decide) (by have := HLe3.out; simp only [List.length_append]; omega) hB1)
              go_wp2_with (go_at_call 38; (with_reducible refine HWc.out.mono ?_); rintro e wa ⟨rfl, hwa⟩; have HWa := hid hwa; clear hwa)
              go_end0
              show RR (.returned (.tuple #[])) wa
              rw [HRR.out]
              exact ⟨rfl, by rw [HTX2.out, HTK2.out, ← List.append_assoc]; exact HW0.out.trans HWa.out⟩
end Go.Proofs.Ytdhipmdapodpkaa
