/- parse: ranges; a type around another one. -/
import Derived.Test.YtfcccfplmdjndaaGreatPaC
namespace Go.Proofs.YtfcccfplmdjndaaGreat
set_option linter.unusedSimpArgs false
set_option linter.unusedVariables false
open Go.RowKit

variable {w w' w0 : World} {O O0 : Nat → Prop} {g : Nat} {L : List Tk} {s s' : RS}
def nvOf (t : NT) : NV := ⟨t, SV.nil, SV.nil, SV.nil, SV.nil⟩
set_option maxRecDepth 100000 in
set_option maxHeartbeats 4000000 in
theorem ranged_any (n : NT) (h : RdX w O g L s) : Calls Tryz.prog 111 #[.pointer (some ⟨g, 0, none⟩), (nvOf n).val] w fun e w' => e = .returned (nvOf (rangedP n s).1).val ∧ StG w O g L (rangedP n s).2 w' := by
 have HA := hid (At.start h)
 obtain ⟨P, hP⟩ : ∃ P, P = rangedP n s := ⟨_, rfl⟩
 have HQ := hid hP
 rw [← hP]
 clear hP h
 obtain ⟨ha, h3, h4⟩ := HA.out.two 54 (nvOf n).cells (nvOf n).cells.toArray rfl 54 nvZ.cells #[.int .i64 0, .int .i64 0, .bool false, .bool false, .bool false, .int .u64 0, .int .u64 0, .string ⟨#[]⟩, .string ⟨#[]⟩, .int .u64 0, .int .u64 0, .slice none 0 0, .slice none 0 0, .slice none 0 0, .string ⟨#[]⟩, .int .u64 0, .slice none 0 0, .int .i64 0] rfl
 replace HA := hid ha
 have HX3 := hid h3
 have HX4 := hid h4
 clear ha h3 h4
 rw [NV.val_eq]
 have HM := hid (fun W => (show Calls Tryz.prog 67 #[.agg (nvOf n).cells.toArray] W (fun e w' => e = .returned (.int .u64 (mostV n.k n.wd : Nat)) ∧ Below W.heap.size W w') from most_any (nvOf n) W))
 generalize hC : (nvOf n).cells.toArray = C at *
 have HCs := hid hC
 clear hC
 go_enter Tryz.func111, Tryz.ntmps111
 go_upto_region 1 with fail
 generalize (w.alloc (.cells C 54)).alloc (.cells #[.int .i64 0, .int .i64 0, .bool false, .bool false, .bool false, .int .u64 0, .int .u64 0, .string ⟨#[]⟩, .string ⟨#[]⟩, .int .u64 0, .int .u64 0, .slice none 0 0, .slice none 0 0, .slice none 0 0, .string ⟨#[]⟩, .int .u64 0, .slice none 0 0, .int .i64 0] 54) = w1 at *
 replace HX3 := hid (show Bx _ _ _ _ _ (nvOf n).cells from HX3.out)
 have hb3 : w1.heap[w.heap.size]? = some (.cells C 54 (0, 0)) := by rw [← HCs.out]; exact HX3.out.bget
 have hsz : (Tryz.prog.info? 54).map (·.size) = some C.size := by rw [← HCs.out]; exact nv_size _
 go_upto_region 2 with (first
  | (with_reducible refine wpList_load_row rfl 54 _ rfl w.heap.size rfl 54 C (0, 0) _ hb3 Tryz.underlying54 rfl hsz ?_)
  | (go_at_call 67; (with_reducible refine (HM.out _).mono ?_); rintro e wk ⟨rfl, hk⟩; replace HA := hid (HA.out.below hk); replace HX3 := hid (HX3.out.keep hk); replace HX4 := hid (HX4.out.keep hk); clear hk; have z3_6 : _ = some ((.int .u64 (n.mx : Int) : Value)) := HX3.out.at 6; have y3_6 := HX3.out.free 6))
 have ha := HA.out.bset HX3.out 6 (.int .u64 (mostV n.k n.wd : Nat))
 have hx := HX3.out.put 6 (.int .u64 (mostV n.k n.wd : Nat))
 have hx4 := HX4.out.other (b' := w.heap.size) (fun e => by omega) 6 (.int .u64 (mostV n.k n.wd : Nat))
 replace HA := hid ha
 replace HX3 := hid (show Bx _ _ _ _ _ (nvOf { n with mx := mostV n.k n.wd }).cells from hx)
 replace HX4 := hid hx4
 clear ha hx hx4 z3_6 y3_6
 generalize wk.setCell ⟨w.heap.size, 6, none⟩ (.int .u64 (mostV n.k n.wd : Nat)) = w2 at *
 clear hb3 hsz HM HCs
 obtain ⟨p, hn⟩ := next_g HA.out.rd
 have HC := hid hn
 have q0 := tok_0 (nxt s).1 p (nxt s).2
 clear hn
 by_cases hk : (nxt s).1 = 2
 rotate_left
 ·have hkb : (((nxt s).1 : Int) == 2) = false := by simpa using (show ¬ ((nxt s).1 : Int) = 2 by omega)
  have HRE := hid (show rangedP n s = ({ n with mx := mostV n.k n.wd }, s) from by unfold rangedP; rw [if_neg hk])
  clear hk
  go_upto_region 6 with (go_at_call 51; (with_reducible refine HC.out.mono ?_); rintro e wk ⟨rfl, hk⟩; obtain ⟨Ok, ha, hb⟩ := At.call HA.out hk; replace HA := hid ha; replace HX3 := hid (HX3.out.call hb); replace HX4 := hid (HX4.out.call hb); clear hk ha hb; clear HC)
  go_wp2_with (first
  | (with_reducible refine wpList_load_row rfl 54 _ rfl (w.heap.size) rfl 54 (nvOf { n with mx := mostV n.k n.wd }).cells.toArray (0, 0) _ HX3.out.bget Tryz.underlying54 rfl (nv_size _) ?_)
  | (with_reducible refine wpList_store_row rfl 54 _ _ rfl (w.heap.size + 1) (nvOf { n with mx := mostV n.k n.wd }).cells.toArray rfl rfl 54 _ HX4.out.bget (nv_size _) rfl (nv_one _) ?_))
  have hb2 := HX4.out.row (cs' := (nvOf { n with mx := mostV n.k n.wd }).cells)
  refine bodyPost_ret (v := (nvOf { n with mx := mostV n.k n.wd }).val) (results_cell_row (P := Tryz.prog) (fn := Tryz.f111) rfl _ _ (w.heap.size + 1) 54 (nvOf { n with mx := mostV n.k n.wd }).cells.toArray (0, 0) _ rfl hb2.bget Tryz.underlying54 rfl (nv_size _)) rfl ?_
  rw [HQ.out, HRE.out]
  exact ⟨rfl, (HA.out.brow HX4.out _).stg⟩
 ·have hkb : (((nxt s).1 : Int) == 2) = true := by simpa using (show ((nxt s).1 : Int) = 2 by omega)
  have HK := hid hk
  clear hk
  go_upto_region 3 with (go_at_call 51; (with_reducible refine HC.out.mono ?_); rintro e wk ⟨rfl, hk⟩; obtain ⟨Ok, ha, hb⟩ := At.call HA.out hk; replace HA := hid ha; replace HX3 := hid (HX3.out.call hb); replace HX4 := hid (HX4.out.call hb); clear hk ha hb; clear HC)
  clear q0 hkb
  have HC := hid (show Calls Tryz.prog 122 #[.pointer (some ⟨g, 0, none⟩), .int .u64 0, .int .u64 18446744073709551615] _ (fun e w' => e = .returned (.int .u64 ((numP 0 uMax s).1 : Int)) ∧ StG _ _ g L (numP 0 uMax s).2 w') from num_g HA.out.rd 0 uMax)
  obtain ⟨P0, hP0⟩ : ∃ P0, P0 = numP 0 uMax s := ⟨_, rfl⟩
  rw [← hP0] at HC
  have HP0 := hid hP0
  clear hP0
  obtain ⟨mn, s0⟩ := P0
  simp only at HC
  have z3_5 : _ = some ((.int .u64 (n.mn : Int) : Value)) := HX3.out.at 5; have y3_5 := HX3.out.free 5
  go_upto_region 4 with (go_at_call 122; (with_reducible refine HC.out.mono ?_); rintro e wk ⟨rfl, hk⟩; obtain ⟨Ok, ha, hb⟩ := At.call HA.out hk; replace HA := hid ha; replace HX3 := hid (HX3.out.call hb); replace HX4 := hid (HX4.out.call hb); clear hk ha hb; clear HC; have z3_5 : _ = some ((.int .u64 (n.mn : Int) : Value)) := HX3.out.at 5; have y3_5 := HX3.out.free 5)
  have ha := HA.out.bset HX3.out 5 (.int .u64 (mn : Int))
  have hx := HX3.out.put 5 (.int .u64 (mn : Int))
  have hx4 := HX4.out.other (b' := w.heap.size) (fun e => by omega) 5 (.int .u64 (mn : Int))
  replace HA := hid ha
  replace HX3 := hid (show Bx _ _ _ _ _ (nvOf { n with mx := mostV n.k n.wd, mn := mn }).cells from hx)
  replace HX4 := hid hx4
  clear ha hx hx4 z3_5 y3_5
  generalize wk.setCell ⟨w.heap.size, 5, none⟩ (.int .u64 (mn : Int)) = w5 at *
  have HC := hid (show Calls Tryz.prog 53 #[.pointer (some ⟨g, 0, none⟩), .string ⟨#[46, 46]⟩] _ (fun e w' => e = .returned (.tuple #[]) ∧ StG _ _ g L (signP [46, 46] s0) w') from sign_g HA.out.rd [46, 46])
  obtain ⟨s1, hs1⟩ : ∃ s1, s1 = signP [46, 46] s0 := ⟨_, rfl⟩
  rw [← hs1] at HC
  have HS1 := hid hs1
  clear hs1
  go_upto_region 5 with (go_at_call 53; (with_reducible refine HC.out.mono ?_); rintro e wk ⟨rfl, hk⟩; obtain ⟨Ok, ha, hb⟩ := At.call HA.out hk; replace HA := hid ha; replace HX3 := hid (HX3.out.call hb); replace HX4 := hid (HX4.out.call hb); clear hk ha hb; clear HC)
  have HC := hid (num_g HA.out.rd mn (mostV n.k n.wd))
  obtain ⟨P1, hP1⟩ : ∃ P1, P1 = numP mn (mostV n.k n.wd) s1 := ⟨_, rfl⟩
  rw [← hP1] at HC
  have HP1 := hid hP1
  clear hP1
  obtain ⟨mx, s2⟩ := P1
  simp only at HC
  have z3_5 : _ = some ((.int .u64 (mn : Int) : Value)) := HX3.out.at 5; have y3_5 := HX3.out.free 5
  have z3_6 : _ = some ((.int .u64 (mostV n.k n.wd : Nat) : Value)) := HX3.out.at 6; have y3_6 := HX3.out.free 6
  go_upto_region 6 with (go_at_call 122; (with_reducible refine HC.out.mono ?_); rintro e wk ⟨rfl, hk⟩; obtain ⟨Ok, ha, hb⟩ := At.call HA.out hk; replace HA := hid ha; replace HX3 := hid (HX3.out.call hb); replace HX4 := hid (HX4.out.call hb); clear hk ha hb; clear HC; have z3_6 : _ = some ((.int .u64 (mostV n.k n.wd : Nat) : Value)) := HX3.out.at 6; have y3_6 := HX3.out.free 6)
  clear z3_5 y3_5
  have ha := HA.out.bset HX3.out 6 (.int .u64 (mx : Int))
  have hx := HX3.out.put 6 (.int .u64 (mx : Int))
  have hx4 := HX4.out.other (b' := w.heap.size) (fun e => by omega) 6 (.int .u64 (mx : Int))
  replace HA := hid ha
  replace HX3 := hid (show Bx _ _ _ _ _ (nvOf { n with mx := mx, mn := mn }).cells from hx)
  replace HX4 := hid hx4
  clear ha hx hx4 z3_6 y3_6
  generalize wk.setCell ⟨w.heap.size, 6, none⟩ (.int .u64 (mx : Int)) = w6 at *
  have HRE := hid (show rangedP n s = ({ n with mx := mx, mn := mn }, s2) from by
   unfold rangedP
   rw [if_pos HK.out]
   simp only [← HP0.out, ← HS1.out, ← HP1.out])
  go_wp2_with (first
  | (with_reducible refine wpList_load_row rfl 54 _ rfl (w.heap.size) rfl 54 (nvOf { n with mx := mx, mn := mn }).cells.toArray (0, 0) _ HX3.out.bget Tryz.underlying54 rfl (nv_size _) ?_)
  | (with_reducible refine wpList_store_row rfl 54 _ _ rfl (w.heap.size + 1) (nvOf { n with mx := mx, mn := mn }).cells.toArray rfl rfl 54 _ HX4.out.bget (nv_size _) rfl (nv_one _) ?_))
  have hb2 := HX4.out.row (cs' := (nvOf { n with mx := mx, mn := mn }).cells)
  refine bodyPost_ret (v := (nvOf { n with mx := mx, mn := mn }).val) (results_cell_row (P := Tryz.prog) (fn := Tryz.f111) rfl _ _ (w.heap.size + 1) 54 (nvOf { n with mx := mx, mn := mn }).cells.toArray (0, 0) _ rfl hb2.bget Tryz.underlying54 rfl (nv_size _)) rfl ?_
  rw [HQ.out, HRE.out]
  exact ⟨rfl, (HA.out.brow HX4.out _).stg⟩
end Go.Proofs.YtfcccfplmdjndaaGreat

/- parse: a type around another one. -/
namespace Go.Proofs.YtfcccfplmdjndaaGreat
set_option linter.unusedSimpArgs false
set_option linter.unusedVariables false
open Go.RowKit

variable {w w' w0 : World} {O O0 : Nat → Prop} {g : Nat} {L : List Tk} {s s' : RS}
def NRes (b0 : Nat) (t : NT) (e : Ending) (w : World) : Prop := ∃ x : NV, e = .returned x.val ∧ x.t = t ∧ NodeOk w (b0 ≤ ·) x ∧ Fits x
theorem rw_blk {b n : Nat} {T : TypeId} {cs : List Value} {P : Nat → Prop} (h : Blk w b T cs) (hP : P b) (c : Nat) : Rw w P ⟨some ⟨b, 0, none⟩, n, c⟩ cs :=
 ⟨fun e => (by cases e), fun h0 => ⟨b, 0, rfl, h.lt, hP, fun j hj => by rw [Nat.zero_add, Blk.at h, List.getElem?_eq_getElem hj]⟩⟩
theorem node_nil (w : World) (P : Nat → Prop) (t : NT) (h : t.ks = [] ∧ t.ls = [] ∧ t.fs = [] ∧ t.cs = []) : NodeOk w P (nvOf t) ∧ Fits (nvOf t) := by
 obtain ⟨h1, h2, h3, h4⟩ := h
 refine ⟨⟨?_, ?_, ?_, ?_, ?_, ?_, ?_, ?_⟩, ⟨Nat.zero_le _, Nat.zero_le _, Nat.zero_le _, Nat.zero_le _⟩⟩
 ·show 0 = t.ks.length; rw [h1]; rfl
 ·show 0 = t.ls.length; rw [h2]; rfl
 ·show 0 = t.fs.length; rw [h3]; rfl
 ·show 0 = t.cs.length; rw [h4]; rfl
 ·show Rw w _ SV.nil (intC t.ks); rw [h1]; exact Rw.nil _ _ _
 ·show Rw w _ SV.nil (boolC t.ls); rw [h2]; exact Rw.nil _ _ _
 ·show Rw w _ SV.nil (flatF t.fs); rw [h3]; exact Rw.nil _ _ _
 ·show Rw w _ SV.nil (flatC t.cs); rw [h4]; exact Rw.nil _ _ _
def nvKid (t : NT) (k : Int) (b : Nat) : NV := ⟨{ t with ks := [k] }, ⟨some ⟨b, 0, none⟩, 1, 1⟩, SV.nil, SV.nil, SV.nil⟩
theorem node_kid {t : NT} (h : t.ls = [] ∧ t.fs = [] ∧ t.cs = []) {k : Int} {b : Nat} (hb : Blk w b 3 [.int .i64 k]) {P : Nat → Prop} (hP : P b) : NodeOk w P (nvKid t k b) ∧ Fits (nvKid t k b) := by
 obtain ⟨h2, h3, h4⟩ := h
 refine ⟨⟨rfl, ?_, ?_, ?_, ?_, ?_, ?_, ?_⟩, ⟨(by show 1 ≤ 1048576; decide), Nat.zero_le _, Nat.zero_le _, Nat.zero_le _⟩⟩
 ·show 0 = t.ls.length; rw [h2]; rfl
 ·show 0 = t.fs.length; rw [h3]; rfl
 ·show 0 = t.cs.length; rw [h4]; rfl
 ·exact rw_blk hb hP 1
 ·show Rw w _ SV.nil (boolC t.ls); rw [h2]; exact Rw.nil _ _ _
 ·show Rw w _ SV.nil (flatF t.fs); rw [h3]; exact Rw.nil _ _ _
 ·show Rw w _ SV.nil (flatC t.cs); rw [h4]; exact Rw.nil _ _ _
set_option maxRecDepth 100000 in
set_option maxHeartbeats 4000000 in
theorem around_any {N deep : Nat} {K : RS → Int × RS} (hK : KOk N ((deep : Int) + 1) K L) (hd : deep ≤ 10000000) (n : NT) (hn : n.ls = [] ∧ n.fs = [] ∧ n.cs = []) (h : RdX w O g L s) (he : EndS s) (hN : s.ts.length ≤ N) : Calls Tryz.prog 113 #[.pointer (some ⟨g, 0, none⟩), (nvOf n).val, .int .i64 (deep : Int)] w fun e w' => NRes w.heap.size (aroundP K n s).1 e w' ∧ StG w O g L (aroundP K n s).2 w' := by
 have HA := hid (At.start h)
 obtain ⟨P, hP⟩ : ∃ P, P = aroundP K n s := ⟨_, rfl⟩
 have HQ := hid hP
 rw [← hP]
 have HN := hid hn
 have HK := hid hK
 have HEd := hid he
 have HNl := hid hN
 clear hP h hn hK he hN
 obtain ⟨ha, h3, h4⟩ := HA.out.two 54 (nvOf n).cells (nvOf n).cells.toArray rfl 54 nvZ.cells #[.int .i64 0, .int .i64 0, .bool false, .bool false, .bool false, .int .u64 0, .int .u64 0, .string ⟨#[]⟩, .string ⟨#[]⟩, .int .u64 0, .int .u64 0, .slice none 0 0, .slice none 0 0, .slice none 0 0, .string ⟨#[]⟩, .int .u64 0, .slice none 0 0, .int .i64 0] rfl
 replace HA := hid ha
 have HX3 := hid h3
 have HX4 := hid h4
 clear ha h3 h4
 rw [NV.val_eq]
 generalize hC : (nvOf n).cells.toArray = C at *
 have HCs := hid hC
 clear hC
 go_enter Tryz.func113, Tryz.ntmps113
 go_upto_region 1 with fail
 generalize (w.alloc (.cells C 54)).alloc (.cells #[.int .i64 0, .int .i64 0, .bool false, .bool false, .bool false, .int .u64 0, .int .u64 0, .string ⟨#[]⟩, .string ⟨#[]⟩, .int .u64 0, .int .u64 0, .slice none 0 0, .slice none 0 0, .slice none 0 0, .string ⟨#[]⟩, .int .u64 0, .slice none 0 0, .int .i64 0] 54) = w1 at *
 have HC := hid (HK.out _ _ _ _ HA.out.rd HEd.out HNl.out)
 obtain ⟨P1, hP1⟩ : ∃ P1, P1 = K s := ⟨_, rfl⟩
 rw [← hP1] at HC
 have HP1 := hid hP1
 clear hP1
 obtain ⟨kd, s1⟩ := P1
 simp only at HC
 have z3_11 : _ = some ((.slice none 0 0 : Value)) := HX3.out.at 11; have y3_11 := HX3.out.free 11
 go_upto_region 2 with (go_at_call 54; (with_reducible refine HC.out.mono ?_); rintro e wk ⟨rfl, hk⟩; obtain ⟨Ok, ha, hb⟩ := At.call HA.out hk; replace HA := hid ha; replace HX3 := hid (HX3.out.call hb); replace HX4 := hid (HX4.out.call hb); clear hk ha hb; clear HC; have Hl3 := hid HX3.out.blk.lt; have Hl4 := hid HX4.out.blk.lt; obtain ⟨ha, h5⟩ := HA.out.one 3 [.int .i64 kd] #[.int .i64 kd] rfl; replace HA := hid ha; replace HX3 := hid (HX3.out.alloc (.cells #[.int .i64 kd] 3)); replace HX4 := hid (HX4.out.alloc (.cells #[.int .i64 kd] 3)); have HX5 := hid h5; clear ha h5; have z3_11 : _ = some ((.slice none 0 0 : Value)) := HX3.out.at 11; have y3_11 := HX3.out.free 11)
 obtain ⟨b5, hb5⟩ : ∃ b5, b5 = wk.heap.size := ⟨_, rfl⟩
 rw [← hb5] at HX5 Hl3 Hl4
 simp only [← hb5]
 have ha := HA.out.bset HX3.out 11 (.slice (some ⟨b5, 0, none⟩) 1 1)
 have hx := HX3.out.put 11 (.slice (some ⟨b5, 0, none⟩) 1 1)
 have hx4 := HX4.out.other (b' := w.heap.size) (fun e => by omega) 11 (.slice (some ⟨b5, 0, none⟩) 1 1)
 have hx5 := HX5.out.other (b' := w.heap.size) (fun e => by have := Hl3.out; omega) 11 (.slice (some ⟨b5, 0, none⟩) 1 1)
 replace HA := hid ha
 replace HX3 := hid (show Bx _ _ _ _ _ (nvKid n kd b5).cells from hx)
 replace HX4 := hid hx4
 replace HX5 := hid hx5
 clear ha hx hx4 hx5 z3_11 y3_11
 clear hb5
 generalize (wk.alloc (.cells #[.int .i64 kd] 3)).setCell ⟨w.heap.size, 11, none⟩ (.slice (some ⟨b5, 0, none⟩) 1 1) = w3 at *
 have HRE := hid (show aroundP K n s = ({ n with ks := [kd] }, s1) from by unfold aroundP; simp only [← HP1.out])
 go_wp2_with (first
  | (with_reducible refine wpList_load_row rfl 54 _ rfl (w.heap.size) rfl 54 (nvKid n kd b5).cells.toArray (0, 0) _ HX3.out.bget Tryz.underlying54 rfl (nv_size _) ?_)
  | (with_reducible refine wpList_store_row rfl 54 _ _ rfl (w.heap.size + 1) (nvKid n kd b5).cells.toArray rfl rfl 54 _ HX4.out.bget (nv_size _) rfl (nv_one _) ?_))
 have hb2 := HX4.out.row (cs' := (nvKid n kd b5).cells)
 refine bodyPost_ret (v := (nvKid n kd b5).val) (results_cell_row (P := Tryz.prog) (fn := Tryz.f113) rfl _ _ (w.heap.size + 1) 54 (nvKid n kd b5).cells.toArray (0, 0) _ rfl hb2.bget Tryz.underlying54 rfl (nv_size _)) rfl ?_
 rw [HQ.out, HRE.out]
 obtain ⟨k1, k2⟩ := node_kid HN.out (HX5.out.orow (b' := w.heap.size + 1) (fun e => by have := Hl4.out; omega) (nvKid n kd b5).cells.toArray).blk (P := (w.heap.size ≤ ·)) HX5.out.ge
 exact ⟨⟨_, rfl, rfl, k1, k2⟩, (HA.out.brow HX4.out _).stg⟩
end Go.Proofs.YtfcccfplmdjndaaGreat
