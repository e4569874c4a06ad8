/- spec: holdParts. -/
import Derived.Test.YtfcccfplmdjndaaGreatSpN
import Derived.Test.YtfcccfplmdjndaaGreatSpG
namespace Go.Proofs.YtfcccfplmdjndaaGreat
set_option linter.unusedSimpArgs false
set_option linter.unusedVariables false
open Go.RowKit

def hsF (m : Nat) : List Bool → List Int → Except Nat (List Bool)
 | l, [] => .ok l
 | l, p :: ps => match holdF (l.take m) p with
  | .error c => .error c
  | .ok _ => hsF m (l.set p.toNat true) ps
theorem hsF_len {m : Nat} : ∀ {ps : List Int} {l l' : List Bool}, hsF m l ps = .ok l' → l'.length = l.length
 | [], l, l', h => by injection h with h; rw [h]
 | p :: ps, l, l', h => by
  unfold hsF at h
  cases hh : holdF (l.take m) p with
  | error c => rw [hh] at h; cases h
  | ok l1 => rw [hh] at h; have := hsF_len (ps := ps) h; rw [this]; simp
theorem hsF_snoc {m : Nat} (p : Int) : ∀ (ps : List Int) (l l1 : List Bool), hsF m l ps = .ok l1 → hsF m l (ps ++ [p]) = (match holdF (l1.take m) p with | .error c => .error c | .ok _ => .ok (l1.set p.toNat true))
 | [], l, l1, h => by
  injection h with h
  subst h
  show hsF m l [p] = _
  unfold hsF
  cases holdF (l.take m) p <;> rfl
 | q :: ps, l, l1, h => by
  rw [List.cons_append]
  unfold hsF at h ⊢
  cases hh : holdF (l.take m) q with
  | error c => rw [hh] at h; cases h
  | ok _ => rw [hh] at h; exact hsF_snoc p ps _ l1 h
theorem hsF_err {m : Nat} (p : Int) (c : Nat) : ∀ (ps qs : List Int) (l l1 : List Bool), hsF m l ps = .ok l1 → holdF (l1.take m) p = .error c → hsF m l (ps ++ p :: qs) = .error c
 | [], qs, l, l1, h, he => by
  injection h with h
  subst h
  show hsF m l (p :: qs) = _
  unfold hsF
  rw [he]
 | q :: ps, qs, l, l1, h, he => by
  rw [List.cons_append]
  unfold hsF at h ⊢
  cases hh : holdF (l.take m) q with
  | error c => rw [hh] at h; cases h
  | ok _ => rw [hh] at h; exact hsF_err p c ps qs _ l1 h he
theorem holdF_err {l : List Bool} {p : Int} {c : Nat} (h : holdF l p = .error c) : c = 3 ∨ c = 4 := by
 unfold holdF at h
 split at h
 ·injection h with h; exact .inl h.symm
 ·split at h
  ·injection h with h; exact .inr h.symm
  ·cases h
def hp1R (l : List Bool) (m : Nat) (p : Int) (W : World) (g pe : Nat) (e : Ending) (w' : World) : Prop :=
 match holdF (l.take m) p with
 | .error c => e = .returned (.bool false) ∧ w' = W.setCell ⟨pe, 0, none⟩ (.int .i64 (c : Nat))
 | .ok _ => e = .returned (.bool true) ∧ w' = (W.setCell ⟨g, p.toNat, none⟩ (.bool true)).setCell ⟨pe, 0, none⟩ (.int .i64 0)
set_option maxRecDepth 100000 in
set_option maxHeartbeats 1000000 in
theorem hp1_any (l : List Bool) (m c : Nat) (hm : m ≤ l.length) (g pa pe : Nat) (p : Int) (W : World) (h : Blk W g 4 (boolC l)) (ha : Blk W pa 50 [.slice (some ⟨g, 0, none⟩) m c]) (he : Blk W pe 24 [.int .i64 0]) :
  Calls Tryz.prog 69 #[.int .i64 p, .pointer (some ⟨pa, 0, none⟩), .pointer (some ⟨pe, 0, none⟩)] W (hp1R l m p W g pe) := by
 have hge : pe ≠ g := by
  rintro rfl
  unfold Blk at h he
  rw [h] at he
  injection he with he
  injection he with _ h2
  revert h2
  decide
 have HH := hid (hold_any l m c hm g p W h)
 obtain ⟨R, hR⟩ : ∃ R, R = hp1R l m p W g pe := ⟨_, rfl⟩
 rw [← hR]
 unfold hp1R at hR
 unfold holdR at HH
 have a0 := Blk.at ha 0
 have e0 := Blk.at he 0
 have f0 := Blk.free he 0
 simp only [List.getElem?_cons_zero] at a0 e0
 cases hq : holdF (l.take m) p with
 | error d =>
  rw [hq] at HH hR
  simp only at HH hR
  have hd := holdF_err hq
  have HR := hid hR
  have hd0 : ¬ (d : Int) = 0 := by omega
  have HE2 := hid (Blk.put he 0 (.int .i64 (d : Int)))
  clear hR hq hd h ha he hm hge
  go_enter Tryz.func69, Tryz.ntmps69
  go_wp2_with fail
  refine HH.out.mono ?_
  rintro e w2 ⟨rfl, rfl⟩
  have z0 := Blk.at HE2.out 0
  simp only [List.set_cons_zero, List.getElem?_cons_zero] at z0
  go_wp2
  show R (.returned (.bool _)) _
  rw [HR.out]
  exact ⟨by simp; omega, rfl⟩
 | ok l1 =>
  rw [hq] at HH hR
  simp only at HH hR
  have HR := hid hR
  have hb := he.other (p := ⟨g, p.toNat, none⟩) hge (.bool true)
  have HE2 := hid (Blk.put hb 0 (.int .i64 0))
  have HX := hid (show (W.setCell ⟨g, p.toNat, none⟩ (.bool true)).frozen? ⟨pe, 0, none⟩ = false ∧ ((W.setCell ⟨g, p.toNat, none⟩ (.bool true)).cell? ⟨pe, 0, none⟩ = some (.int .i64 0)) from ⟨Blk.free hb 0, Blk.at hb 0⟩)
  clear hR hq h ha he hm hge hb e0 f0
  go_enter Tryz.func69, Tryz.ntmps69
  go_wp2_with fail
  refine HH.out.mono ?_
  rintro e w2 ⟨rfl, rfl⟩
  clear a0
  generalize W.setCell ⟨g, p.toNat, none⟩ (.bool true) = w2 at *
  obtain ⟨y0, y1⟩ := HX.out
  have z0 := Blk.at HE2.out 0
  simp only [List.set_cons_zero, List.getElem?_cons_zero] at z0
  go_wp2
  show R (.returned (.bool _)) _
  rw [HR.out]
  exact ⟨by simp, rfl⟩
end Go.Proofs.YtfcccfplmdjndaaGreat

/- spec: holdParts, whole. -/
namespace Go.Proofs.YtfcccfplmdjndaaGreat
set_option linter.unusedSimpArgs false
set_option linter.unusedVariables false
open Go.RowKit

structure HpI (l : List Bool) (m c g pa pe : Nat) (ps : List Int) (w3 : World) (i : Nat) (W : World) (li : List Bool) : Prop where
 f : hsF m l (ps.take i) = .ok li
 bg : Blk W g 4 (boolC li)
 ba : Blk W pa 50 [.slice (some ⟨g, 0, none⟩) m c]
 be : Blk W pe 24 [.int .i64 0]
 ch : Chg w3 W (fun k => k = g ∨ k = pe)
 i : i ≤ ps.length
structure HpS (l : List Bool) (m g pe : Nat) (ps : List Int) (w3 : World) (W : World) (d : Nat) : Prop where
 f : hsF m l ps = .error d
 bg : ∃ l', l'.length = l.length ∧ Blk W g 4 (boolC l')
 be : Blk W pe 24 [.int .i64 (d : Nat)]
 ch : Chg w3 W (fun k => k = g ∨ k = pe)
theorem hp_hands {l : List Bool} {m c g pa pe : Nat} (hm : m ≤ l.length) (ps : List Int) (w3 : World) (hg : g < w3.heap.size) (hpa : pa < w3.heap.size) (hpe : pe < w3.heap.size) (hga : g ≠ pa) (hgp : pe ≠ g) (hap : pa ≠ pe) :
  Hands 69 #[.pointer (some ⟨pa, 0, none⟩), .pointer (some ⟨pe, 0, none⟩)] ps w3.heap.size (fun i W => ∃ li, HpI l m c g pa pe ps w3 i W li) (fun W => ∃ d, HpS l m g pe ps w3 W d) where
 ent := enters_of Tryz.func69 (by kernel_rfl) rfl
 call := by
  rintro i hi W ⟨li, hI⟩ hB
  have hll := hsF_len hI.f
  have h := hp1_any li m c (by omega) g pa pe ps[i] W hI.bg hI.ba hI.be
  refine h.mono ?_
  intro e W' hr
  unfold hp1R at hr
  have htk : ps.take (i + 1) = ps.take i ++ [ps[i]] := List.take_succ_eq_append_getElem hi
  cases hq : holdF (li.take m) ps[i] with
  | error d =>
   rw [hq] at hr
   obtain ⟨he, hw⟩ := hr
   subst hw
   have hch : Chg W (W.setCell ⟨pe, 0, none⟩ (.int .i64 (d : Nat))) (fun k => k = pe) := (Chg.refl W (fun k => k = pe)).set pe 0 rfl _
   refine ⟨false, he, ⟨hch.block _ hB (by omega), hch.size⟩, (fun h => by cases h), fun _ => ⟨d, ?_, ⟨li, hll, ?_⟩, ?_, ?_⟩⟩
   ·have e1 : ps = ps.take i ++ ps[i] :: ps.drop (i + 1) := by rw [← List.drop_eq_getElem_cons hi, List.take_append_drop]
    rw [e1]
    exact hsF_err _ d _ _ _ _ hI.f hq
   ·exact hI.bg.other (by simp only; omega) _
   ·have := hI.be.put 0 (.int .i64 (d : Nat))
    simpa using this
   ·exact hI.ch.trans (hch.more (fun k _ hk => .inr hk))
  | ok l1 =>
   rw [hq] at hr
   obtain ⟨he, hw⟩ := hr
   subst hw
   have hch : Chg W ((W.setCell ⟨g, ps[i].toNat, none⟩ (.bool true)).setCell ⟨pe, 0, none⟩ (.int .i64 0)) (fun k => k = g ∨ k = pe) := ((Chg.refl W _).set g _ (.inl rfl) _).set pe 0 (.inr rfl) _
   refine ⟨true, he, ⟨hch.block _ hB (by omega), hch.size⟩, (fun _ => ⟨li.set ps[i].toNat true, ?_, ?_, ?_, ?_, ?_, by omega⟩), fun h => by cases h⟩
   ·rw [htk, hsF_snoc _ _ _ _ hI.f, hq]
   ·have := (hI.bg.put ps[i].toNat (.bool true)).other (p := ⟨pe, 0, none⟩) (by simp only; omega) (.int .i64 0)
    simpa [boolC, List.map_set] using this
   ·exact (hI.ba.other (by simp only; omega) _).other (by simp only; omega) _
   ·have := (hI.be.other (p := ⟨g, ps[i].toNat, none⟩) (by simp only; omega) (.bool true)).put 0 (.int .i64 0)
    simpa using this
   ·exact hI.ch.trans hch
 keep := by
  rintro i W W' ⟨li, hI⟩ hc
  exact ⟨li, hI.f, hI.bg.keep hc, hI.ba.keep hc, hI.be.keep hc, hI.ch.trans (Chg.of_below hc _), hI.i⟩
theorem hp3 (w : World) (cs : Array Value) (x : NV) (s : Value) (hbx : ∀ w : World, Below w.heap.size w (w.alloc (.cells cs 54)) ∧ NBox (w.alloc (.cells cs 54)) w.heap.size cs x) :
  Below w.heap.size w (((w.alloc (.cells #[s] 50)).alloc (.cells cs 54)).alloc (.cells #[.int .i64 0] 24)) ∧
  Blk (((w.alloc (.cells #[s] 50)).alloc (.cells cs 54)).alloc (.cells #[.int .i64 0] 24)) w.heap.size 50 [s] ∧
  NBox (((w.alloc (.cells #[s] 50)).alloc (.cells cs 54)).alloc (.cells #[.int .i64 0] 24)) (w.heap.size + 1) cs x ∧
  Blk (((w.alloc (.cells #[s] 50)).alloc (.cells cs 54)).alloc (.cells #[.int .i64 0] 24)) (w.heap.size + 1 + 1) 24 [.int .i64 0] ∧
  (((w.alloc (.cells #[s] 50)).alloc (.cells cs 54)).alloc (.cells #[.int .i64 0] 24)).heap.size = w.heap.size + 3 := by
 have b1 := (Below.refl w.heap.size w).alloc (Nat.le_refl _) (.cells #[s] 50)
 have s1 : (w.alloc (.cells #[s] 50)).heap.size = w.heap.size + 1 := by simp
 have n1 := Blk.fresh w 50 [s]
 have n2 := (hbx (w.alloc (.cells #[s] 50))).2
 have c2 := (hbx (w.alloc (.cells #[s] 50))).1
 have n3 := Blk.fresh ((w.alloc (.cells #[s] 50)).alloc (.cells cs 54)) 24 [.int .i64 0]
 have s2 : ((w.alloc (.cells #[s] 50)).alloc (.cells cs 54)).heap.size = w.heap.size + 1 + 1 := by simp
 have c3 := (Below.refl ((w.alloc (.cells #[s] 50)).alloc (.cells cs 54)).heap.size _).alloc (Nat.le_refl _) (.cells #[.int .i64 0] 24)
 rw [s1] at n2
 rw [s2] at n3
 exact ⟨(b1.trans (c2.mono b1.size)).trans (c3.mono (by omega)), (n1.keep c2).keep c3, n2.keep c3, n3, by simp⟩
theorem hp_end {l : List Bool} {m c g pa pe : Nat} {ps : List Int} {w3 w4 : World} {b : Bool} (ht : b = true → ∃ li, HpI l m c g pa pe ps w3 ps.length w4 li) (hs : b = false → ∃ d, HpS l m g pe ps w3 w4 d) :
  ∃ d : Nat, Blk w4 pe 24 [.int .i64 (d : Int)] ∧ Chg w3 w4 (fun k => k = g ∨ k = pe) ∧ match hsF m l ps with
  | .ok l' => d = 0 ∧ Blk w4 g 4 (boolC l')
  | .error q => d = q ∧ ∃ l', l'.length = l.length ∧ Blk w4 g 4 (boolC l') := by
 cases b with
 | true =>
  obtain ⟨li, h⟩ := ht rfl
  have hf := h.f
  rw [List.take_length] at hf
  refine ⟨0, h.be, h.ch, ?_⟩
  rw [hf]
  exact ⟨rfl, h.bg⟩
 | false =>
  obtain ⟨d, h⟩ := hs rfl
  refine ⟨d, h.be, h.ch, ?_⟩
  rw [h.f]
  exact ⟨rfl, h.bg⟩
def hpR (l : List Bool) (m g : Nat) (ps : List Int) (w : World) (e : Ending) (w' : World) : Prop :=
 Chg w w' (fun k => k = g) ∧ match hsF m l ps with
  | .ok l' => e = .returned (.int .i64 0) ∧ Blk w' g 4 (boolC l')
  | .error d => e = .returned (.int .i64 (d : Nat)) ∧ ∃ l', l'.length = l.length ∧ Blk w' g 4 (boolC l')
set_option maxRecDepth 100000 in
set_option maxHeartbeats 2000000 in
theorem holdParts_any {P : Nat → Prop} (x : NV) (l : List Bool) (m c g : Nat) (hm : m ≤ l.length) (w : World) (hO : NodeOk w P x) (hPg : ∀ b, P b → b ≠ g) (hf : Fits x) (h : Blk w g 4 (boolC l)) :
  Calls Tryz.prog 29 #[.slice (some ⟨g, 0, none⟩) m c, x.val] w (hpR l m g x.t.parts w) := by
 obtain ⟨cs, hv, hbx⟩ := nbox x
 have hgl := h.lt
 obtain ⟨R, hR⟩ : ∃ R, R = hpR l m g x.t.parts w := ⟨_, rfl⟩
 have HR := hid hR
 have hq := hp3 w cs x (.slice (some ⟨g, 0, none⟩) m c) hbx
 clear hbx
 rw [hv, ← hR]
 have HQ := hid hq
 clear hq hR
 have HO := hid hO
 have HP := hid hPg
 have HF := hid hf.three
 have HH := hid h
 clear hO hPg hf h
 have hgl' := hid hgl
 clear hgl
 go_enter Tryz.func29, Tryz.ntmps29
 go_upto_region 2 with (fail)
 change Code.wp _ _ _ _ (((w.alloc (.cells #[.slice (some ⟨g, 0, none⟩) m c] 50)).alloc (.cells cs 54)).alloc (.cells #[.int .i64 0] 24))
 generalize ((w.alloc (.cells #[.slice (some ⟨g, 0, none⟩) m c] 50)).alloc (.cells cs 54)).alloc (.cells #[.int .i64 0] 24) = w3 at *
 have HPt := hid (parts_any (F := 69) (caps := #[.pointer (some ⟨w.heap.size, 0, none⟩), .pointer (some ⟨w.heap.size + 1 + 1, 0, none⟩)]) (P := fun b => P b ∧ b < w.heap.size) x w3
  (hp_hands (l := l) (m := m) (c := c) (g := g) (pa := w.heap.size) (pe := w.heap.size + 1 + 1) hm x.t.parts w3 (by have := HQ.out.2.2.2.2; have := hgl'.out; omega) (by have := HQ.out.2.2.2.2; omega) (by have := HQ.out.2.2.2.2; omega) (by have := hgl'.out; omega) (by have := hgl'.out; omega) (by omega))
  (fun i W ⟨li, hI⟩ => (HO.out.mono (w' := w3) (Q := fun b => P b ∧ b < w.heap.size) (fun b _ hl => HQ.out.1.block b hl) HQ.out.1.size (fun b hp hl => ⟨hp, hl⟩)).mono (fun b hp hl => hI.ch.block b hl (by
   have h1 := HP.out b hp.1
   have h2 := hp.2
   rintro (e | e)
   ·exact h1 e
   ·omega)) hI.ch.size (fun b hp _ => hp))
  ⟨l, rfl, HH.out.keep HQ.out.1, HQ.out.2.1, HQ.out.2.2.2.1, Chg.refl _ _, Nat.zero_le _⟩ HF.out)
 rw [hv] at HPt
 go_wp2_with (first
  | ((with_reducible refine wpList_load_node _ rfl HQ.out.2.2.1 ?_ ?_ ?_); exact rfl; exact rfl)
  | (go_at_call 34; (with_reducible refine HPt.out.mono ?_); rintro e w4 ⟨b, rfl, ht, hs⟩; have HT := hid ht; have HS := hid hs; clear ht hs HPt; have hd := hp_end HT.out HS.out; obtain ⟨d, hd1, hd2⟩ := hd; have HD := hid hd2; clear hd2 HT HS; have z0 := Blk.at hd1 0; simp only [List.getElem?_cons_zero] at z0; clear hd1))
 show R (.returned (.int .i64 (d : Int))) w4
 rw [HR.out]
 obtain ⟨hch, hm2⟩ := HD.out
 have hb := HQ.out.1
 refine ⟨⟨hch.os.trans hb.os, hch.tape.trans hb.tape, hch.output.trans hb.output, Nat.le_trans hb.size hch.size, fun k hk hn => (hch.block k (Nat.lt_of_lt_of_le hk hb.size) (by omega)).trans (hb.block k hk)⟩, ?_⟩
 cases hq : hsF m l x.t.parts with
 | ok l' =>
  rw [hq] at hm2
  obtain ⟨rfl, h⟩ := hm2
  exact ⟨rfl, h⟩
 | error q =>
  rw [hq] at hm2
  obtain ⟨rfl, h⟩ := hm2
  exact ⟨rfl, h⟩
end Go.Proofs.YtfcccfplmdjndaaGreat
