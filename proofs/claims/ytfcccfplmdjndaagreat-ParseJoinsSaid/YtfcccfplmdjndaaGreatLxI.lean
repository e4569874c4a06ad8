/- lex: one token, whatever it is. -/
import Derived.Test.YtfcccfplmdjndaaGreatLxE
import Derived.Test.YtfcccfplmdjndaaGreatTrA
import Derived.Laws.Rows
import Derived.Maps.AppendAt
namespace Go.Proofs.YtfcccfplmdjndaaGreat
open Go.RowKit

theorem TkPost.step {r : Except Nat (Nat × List UInt8 × Nat)} {w w1 : World} {g : Nat} {s : ByteArray} {i : Nat} {e : Ending} {w' : World} (h : TkPost r w1 g s i e w') (hg : w.grownBy w1 (some g)) : TkPost r w g s i e w' :=
 ⟨grown_trans hg h.1, h.2⟩
theorem TkPost.un {r : Except Nat (Nat × List UInt8 × Nat)} {w : World} {g : Nat} {s : ByteArray} {i : Nat} {e : Ending} {w' : World} (h : TkPost r w g s i e w') : ∃ (k c : Int) (X : ByteArray), e = .returned (.tuple #[.int .i64 k, .string X, .int .i64 c]) ∧ TkPost r w g s i (.returned (.tuple #[.int .i64 k, .string X, .int .i64 c])) w' := by
 cases r with
 | error c => obtain ⟨h1, rfl⟩ := h; exact ⟨_, _, _, rfl, h1, rfl⟩
 | ok v => obtain ⟨k, x, n⟩ := v; obtain ⟨h1, rfl, h3⟩ := h; exact ⟨_, _, _, rfl, h1, rfl, h3⟩
set_option maxRecDepth 100000 in
set_option maxHeartbeats 4000000 in
theorem token_any {w : World} {g : Nat} {s : ByteArray} {i : Nat} (h : Cu w g s i) (hi : i < s.size) (hs : s.size ≤ 65536) :
  Calls Tryz.prog 21 #[.pointer (some ⟨g, 0, none⟩)] w (TkPost (front (s.data.toList.drop i)) w g s i) := by
 have hlt2 : i < s.data.toList.length := hi
 have hr : s.data.toList.drop i = s.data.toList[i]'hlt2 :: s.data.toList.drop (i + 1) := drop_eq hlt2
 obtain ⟨c, hc⟩ : ∃ c, c = s.data.toList[i]'hlt2 := ⟨_, rfl⟩
 have hx1 : ((s[i]'hi).toNat : Int) = (c.toNat : Int) := by rw [hc]; rfl
 obtain ⟨t, ht⟩ : ∃ t, s.data.toList.drop (i + 1) = t := ⟨_, rfl⟩
 rw [← hc, ht] at hr
 have HNa := hid (fun (W : World) (h : Cu W g s i) => name_any h (by omega) hs)
 have HNu := hid (fun (W : World) (h : Cu W g s i) => number_any h (by omega) hs c t hr)
 have HPa := hid (fun (W : World) (h : Cu W g s i) => pattern_any h hi hs t ht)
 have HSi := hid (fun (W : World) (h : Cu W g s i) => sign_any h hi hs c t hr)
 have HRest := hid (fun (W : World) (h : Cu W g s i) => rest_any h (by omega) hs)
 have HL := hid (fun W => letter_any c.toNat W)
 have HD := hid (fun W => digit_any c.toNat W)
 rw [hr] at HNa HRest
 have HH := hid (fun W => Tryz.strings_HasPrefix ⟨(c :: t).toArray⟩ ⟨#[47]⟩ W)
 have h47 : ((c :: t).head? = some 47) = (c.toNat = 47) := propext ⟨fun h => by injection h with h; rw [h]; rfl, fun h => by rw [List.head?_cons]; exact congrArg some (UInt8.toNat_inj.1 h)⟩
 rw [show Lib.hasPrefix ((⟨(c :: t).toArray⟩ : ByteArray)).data.toList ((⟨#[47]⟩ : ByteArray)).data.toList = decide (c.toNat = 47) by rw [show Lib.hasPrefix ((⟨(c :: t).toArray⟩ : ByteArray)).data.toList ((⟨#[47]⟩ : ByteArray)).data.toList = decide ((c :: t).head? = some 47) from pre47 _]; simp only [h47]] at HH
 obtain ⟨R, hR⟩ : ∃ R, R = front (s.data.toList.drop i) := ⟨_, rfl⟩
 rw [← hR]
 rw [hr, front_cons] at hR
 have HC := hid h
 obtain ⟨h0, h1, f1⟩ := h.cells
 generalize (⟨(c :: t).toArray⟩ : ByteArray) = Y at *
 clear hr ht hc h47 h
 generalize (if 24 < span namB (c :: t) then (.error 2 : Except Nat (Nat × List UInt8 × Nat)) else .ok (1, (c :: t).take (span namB (c :: t)), span namB (c :: t))) = r1 at *
 generalize (if 20 < span digB (c :: t) then (.error 2 : Except Nat (Nat × List UInt8 × Nat)) else if 1 < span digB (c :: t) ∧ c.toNat = 48 then .error 5 else .ok (2, (c :: t).take (span digB (c :: t)), span digB (c :: t))) = r2 at *
 generalize (if (t.drop (span patB t)).head? = some 47 then (.ok (3, t.take (span patB t), span patB t + 2) : Except Nat (Nat × List UInt8 × Nat)) else .error 5) = r3 at *
 generalize (if c.toNat = 46 ∧ t.head? = some 46 then (.ok (4, [46, 46], 2) : Except Nat (Nat × List UInt8 × Nat)) else if sgB c = true then .ok (4, [c], 1) else .error 100) = r4 at *
 have n1 : (i : Int) < (s.size : Int) := by omega
 clear hlt2
 cases hl : letN c.toNat with
 | true =>
  rw [hl] at HL
  rw [if_pos hl] at hR
  have HR := hid hR
  clear hl hR HNu HPa HSi HRest HD HH
  generalize c.toNat = x at *
  go_enter Tryz.func21, Tryz.ntmps21
  go_wp2_with fail
  go_quiet (fail)
  have HC1 := hid (HC.out.drewN nq)
  have HG1 := hid (grown_drewN w nq (some g))
  clear h0 h1 f1 HC hx1
  generalize w.drewN nq = w1 at *
  go_wp2_with fail
  refine (HL.out _).mono ?_
  rintro e w2 ⟨rfl, q, rfl⟩
  have HC2 := hid (HC1.out.drewN q)
  have HG2 := hid (grown_trans HG1.out (grown_drewN w1 q _))
  clear HC1 HG1 HL
  generalize w1.drewN q = w2 at *
  go_wp2_with fail
  refine (HNa.out _ HC2.out).mono ?_
  rintro e w3 hp
  obtain ⟨k, ec, X, rfl, hp⟩ := hp.un
  have HP := hid (hp.step HG2.out)
  clear hp HC2 HG2 HNa
  go_wp2
  go_ret3
  rw [HR.out]
  exact HP.out
 | false =>
  rw [hl] at HL
  rw [if_neg (by rw [hl]; decide)] at hR
  cases hd : digN c.toNat with
  | true =>
   rw [hd] at HD
   rw [if_pos hd] at hR
   have HR := hid hR
   clear hl hd hR HNa HPa HSi HRest HH
   generalize c.toNat = x at *
   go_enter Tryz.func21, Tryz.ntmps21
   go_wp2_with fail
   go_quiet (fail)
   have HC1 := hid (HC.out.drewN nq)
   have HG1 := hid (grown_drewN w nq (some g))
   clear h0 h1 f1 HC hx1
   generalize w.drewN nq = w1 at *
   go_wp2_with fail
   refine (HL.out _).mono ?_
   rintro e w2 ⟨rfl, q, rfl⟩
   have HC2 := hid (HC1.out.drewN q)
   have HG2 := hid (grown_trans HG1.out (grown_drewN w1 q _))
   clear HC1 HG1 HL
   generalize w1.drewN q = w2 at *
   go_wp2_with fail
   refine (HD.out _).mono ?_
   rintro e w3 ⟨rfl, q, rfl⟩
   have HC3 := hid (HC2.out.drewN q)
   have HG3 := hid (grown_trans HG2.out (grown_drewN w2 q _))
   clear HC2 HG2 HD
   generalize w2.drewN q = w3 at *
   go_wp2_with fail
   refine (HNu.out _ HC3.out).mono ?_
   rintro e w4 hp
   obtain ⟨k, ec, X, rfl, hp⟩ := hp.un
   have HP := hid (hp.step HG3.out)
   clear hp HC3 HG3 HNu
   go_wp2
   go_ret3
   rw [HR.out]
   exact HP.out
  | false =>
   rw [hd] at HD
   rw [if_neg (by rw [hd]; decide)] at hR
   by_cases h47 : c.toNat = 47
   ·rw [decide_eq_true h47] at HH
    rw [if_pos h47] at hR
    have HR := hid hR
    clear hl hd hR HNa HNu HSi h47
    generalize c.toNat = x at *
    go_enter Tryz.func21, Tryz.ntmps21
    go_wp2_with fail
    go_quiet (fail)
    have HC1 := hid (HC.out.drewN nq)
    have HG1 := hid (grown_drewN w nq (some g))
    clear h0 h1 f1 HC hx1
    generalize w.drewN nq = w1 at *
    go_wp2_with fail
    refine (HL.out _).mono ?_
    rintro e w2 ⟨rfl, q, rfl⟩
    have HC2 := hid (HC1.out.drewN q)
    have HG2 := hid (grown_trans HG1.out (grown_drewN w1 q _))
    clear HC1 HG1 HL
    generalize w1.drewN q = w2 at *
    go_wp2_with fail
    refine (HD.out _).mono ?_
    rintro e w3 ⟨rfl, q, rfl⟩
    have HC3 := hid (HC2.out.drewN q)
    have HG3 := hid (grown_trans HG2.out (grown_drewN w2 q _))
    clear HC2 HG2 HD
    generalize w2.drewN q = w3 at *
    go_wp2_with fail
    refine (HRest.out _ HC3.out).mono ?_
    rintro e w4 ⟨rfl, q, rfl⟩
    have HC4 := hid (HC3.out.drewN q)
    have HG4 := hid (grown_trans HG3.out (grown_drewN w3 q _))
    clear HC3 HG3 HRest
    generalize w3.drewN q = w4 at *
    go_wp2_with fail
    refine (HH.out _).mono ?_
    rintro e w5 ⟨rfl, rfl⟩
    go_wp2_with fail
    refine (HPa.out _ HC4.out).mono ?_
    rintro e w6 hp
    obtain ⟨k, ec, X, rfl, hp⟩ := hp.un
    have HP := hid (hp.step HG4.out)
    clear hp HC4 HG4 HPa
    go_wp2
    go_ret3
    rw [HR.out]
    exact HP.out
   ·rw [decide_eq_false h47] at HH
    rw [if_neg h47] at hR
    have HR := hid hR
    clear hl hd hR HNa HNu HPa h47
    generalize c.toNat = x at *
    go_enter Tryz.func21, Tryz.ntmps21
    go_wp2_with fail
    go_quiet (fail)
    have HC1 := hid (HC.out.drewN nq)
    have HG1 := hid (grown_drewN w nq (some g))
    clear h0 h1 f1 HC hx1
    generalize w.drewN nq = w1 at *
    go_wp2_with fail
    refine (HL.out _).mono ?_
    rintro e w2 ⟨rfl, q, rfl⟩
    have HC2 := hid (HC1.out.drewN q)
    have HG2 := hid (grown_trans HG1.out (grown_drewN w1 q _))
    clear HC1 HG1 HL
    generalize w1.drewN q = w2 at *
    go_wp2_with fail
    refine (HD.out _).mono ?_
    rintro e w3 ⟨rfl, q, rfl⟩
    have HC3 := hid (HC2.out.drewN q)
    have HG3 := hid (grown_trans HG2.out (grown_drewN w2 q _))
    clear HC2 HG2 HD
    generalize w2.drewN q = w3 at *
    go_wp2_with fail
    refine (HRest.out _ HC3.out).mono ?_
    rintro e w4 ⟨rfl, q, rfl⟩
    have HC4 := hid (HC3.out.drewN q)
    have HG4 := hid (grown_trans HG3.out (grown_drewN w3 q _))
    clear HC3 HG3 HRest
    generalize w3.drewN q = w4 at *
    go_wp2_with fail
    refine (HH.out _).mono ?_
    rintro e w5 ⟨rfl, rfl⟩
    go_wp2_with fail
    refine (HSi.out _ HC4.out).mono ?_
    rintro e w6 hp
    obtain ⟨k, ec, X, rfl, hp⟩ := hp.un
    have HP := hid (hp.step HG4.out)
    clear hp HC4 HG4 HSi
    go_wp2
    go_ret3
    rw [HR.out]
    exact HP.out
end Go.Proofs.YtfcccfplmdjndaaGreat

/- lex: Scan. -/
namespace Go.Proofs.YtfcccfplmdjndaaGreat
open Go.RowKit

def Tk.cells (t : Tk) : List Value := [.int .i64 (t.k : Int), .int .i64 (t.p : Int), .string ⟨t.x.toArray⟩]
theorem Tk.len (t : Tk) : t.cells.length = 3 := rfl
def flatK (ts : List Tk) : List Value := ts.flatMap Tk.cells
theorem flatK_snoc (ts : List Tk) (t : Tk) : flatK (ts ++ [t]) = flatK ts ++ t.cells := by simp [flatK]
theorem flatK_get (vs : List Tk) (j i : Nat) (hj : j < vs.length) (hi : i < 3) : (flatK vs)[j * 3 + i]? = vs[j].cells[i]? := by
 induction vs generalizing j with
 | nil => simp at hj
 | cons p ps ih =>
  have hc : flatK (p :: ps) = p.cells ++ flatK ps := by simp [flatK]
  rw [hc]
  cases j with
  | zero =>
   rw [List.getElem?_append_left (by rw [Tk.len]; omega), Nat.zero_mul, Nat.zero_add]
   rfl
  | succ j =>
   rw [List.getElem?_append_right (by rw [Tk.len]; omega), Tk.len, show (j + 1) * 3 + i - 3 = j * 3 + i by omega]
   rw [ih j (by simpa using hj)]
   rfl
theorem tk_ones (v : Tk) : ∀ u ∈ v.cells, u.oneCell' = true := by
 intro u hu
 simp only [Tk.cells, List.mem_cons, List.not_mem_nil, or_false] at hu
 rcases hu with rfl | rfl | rfl <;> rfl
theorem info_tk : (Tryz.prog.info? 70).map (fun i => (i.zero, i.size, i.bytes)) = some (some (.agg #[.int .i64 0, .int .i64 0, .string ⟨#[]⟩]), 3, 32) := by kernel_rfl
def faultC (c p : Int) : Array Value := #[.int .i64 c, .int .i64 p]
theorem fault_size (c p : Int) : (Tryz.prog.info? 26).map (·.size) = some (faultC c p).size := by
 rw [show (faultC c p).size = 2 from rfl]; kernel_rfl
theorem fault_one (c p : Int) : (faultC c p).all (·.oneCell') = true := by simp [faultC, Value.oneCell']
theorem results_tmp_cell {P : Program} {fn : Func} {p u : Tmp} {ty : TypeId} (h : fn.results = #[.tmp u, .cell p ty]) (tmps : Array Value) (w : World) (g : Nat) (t : TypeId) (cs : Array Value) (fr : Nat × Nat) (d : TypeDesc)
  (hp : tmps.getD p undef = .pointer (some ⟨g, 0, none⟩)) (hg : w.heap[g]? = some (.cells cs t fr))
  (hu : P.underlying ty = some d) (hd : (match d with | .struct _ | .array _ _ => true | _ => false) = true) (hi : (P.info? ty).map (·.size) = some cs.size) :
  (results fn tmps).run P w = .ok (.tuple #[tmps.getD u undef, .agg cs]) w := by
 have hp' : tmps[p]?.getD undef = .pointer (some ⟨g, 0, none⟩) := by simpa using hp
 simp [results, h, hp', asAddr, run_loadVar_row w g t ty cs fr d hg hu hd hi]

def ScanR (r : Except (Nat × Nat) (List Tk)) (w : World) (e : Ending) (w' : World) : Prop := Below w.heap.size w w' ∧ match r with
 | .error (c, p) => e = .returned (.tuple #[.slice none 0 0, .agg (faultC (c : Int) (p : Int))])
 | .ok ts => ∃ v, e = .returned (.tuple #[v, .agg (faultC 0 0)]) ∧ w'.ownsRow w.heap.size 70 3 v ts.length (flatK ts)
structure ScSt (w : World) (s : ByteArray) (j : Nat) (v : Value) (ts : List Tk) (W : World) : Prop where
 bel : Below w.heap.size w W
 res : Blk W w.heap.size 26 (faultC 0 0).toList
 cu : Cu W (w.heap.size + 1) s j
 row : W.ownsRow (w.heap.size + 2) 70 3 v ts.length (flatK ts)
theorem ScSt.step {w W W' : World} {s : ByteArray} {j j' : Nat} {v : Value} {ts : List Tk} (h : ScSt w s j v ts W) (hg : W.grownBy W' (some (w.heap.size + 1))) (hc : Cu W' (w.heap.size + 1) s j') : ScSt w s j' v ts W' :=
 ⟨⟨hg.os.trans h.bel.os, hg.tape.trans h.bel.tape, hg.output.trans h.bel.output, Nat.le_trans h.bel.size hg.size, fun k hk => (hg.block k (Nat.lt_of_lt_of_le hk h.bel.size) (by intro e; injection e with e; omega)).trans (h.bel.block k hk)⟩,
   (hg.block _ h.res.lt (by intro e; injection e with e; omega)).trans h.res, hc, owns_keep h.row (fun b hb hl => hg.block b hl (by intro e; injection e with e; omega))⟩
theorem ScSt.below {w W W' : World} {s : ByteArray} {j : Nat} {v : Value} {ts : List Tk} (h : ScSt w s j v ts W) (hb : Below W.heap.size W W') : ScSt w s j v ts W' :=
 ⟨h.bel.trans (hb.mono h.bel.size), h.res.keep hb, h.cu.keep hb, owns_keep h.row (fun b _ hl => hb.block b hl)⟩
theorem ScSt.snoc {w W1 W2 : World} {s : ByteArray} {j : Nat} {v v' : Value} {ts : List Tk} {t : Tk} (h : ScSt w s j v ts W1)
  (hown : W2.ownsRow (w.heap.size + 2) 70 3 v' (ts.length + 1) (flatK ts ++ t.cells)) (hg : W1.grownBy W2 v.ownBlock) : ScSt w s j v' (ts ++ [t]) W2 := by
 have hge := owns_block h.row
 refine ⟨⟨hg.os.trans h.bel.os, hg.tape.trans h.bel.tape, hg.output.trans h.bel.output, Nat.le_trans h.bel.size hg.size, fun k hk => ?_⟩, ?_, ?_, ?_⟩
 ·exact (hg.block k (Nat.lt_of_lt_of_le hk h.bel.size) (fun e => by have := hge k e.symm; omega)).trans (h.bel.block k hk)
 ·exact (hg.block _ h.res.lt (fun e => by have := hge _ e.symm; omega)).trans h.res
 ·exact (hg.block _ (Blk.lt h.cu) (fun e => by have := hge _ e.symm; omega)).trans h.cu
 ·rw [List.length_append, flatK_snoc]; exact hown
theorem new_tk (w : World) (v : Tk) : ∀ j u, v.cells[j]? = some u → (w.alloc (.cells v.cells.toArray 70)).cell? ((⟨w.heap.size, 0, none⟩ : Addr).add j) = some u := by
 intro j u hj
 rw [addr_add, Nat.zero_add]
 exact (Blk.at (Blk.fresh w 70 v.cells) j).trans hj
set_option maxRecDepth 100000 in
set_option maxHeartbeats 4000000 in
theorem scan_long (s : ByteArray) (hs : 65536 < s.size) (w : World) : Calls Tryz.prog 7 #[.string s] w (ScanR (scanT s.data.toList) w) := by
 have HP : Hid (scanT s.data.toList = .error (2, 0)) := hid (by unfold scanT; rw [if_pos (show 65536 < s.data.toList.length from hs)])
 have HB := hid ((Below.refl w.heap.size w).alloc (Nat.le_refl _) (.cells (faultC 0 0) 26))
 have HF := hid (heap_alloc_new w (.cells (faultC 0 0) 26))
 rw [HP.out]
 have hs' : (65536 : Int) < (s.size : Int) := by omega
 clear hs HP
 go_enter Tryz.func7, Tryz.ntmps7
 go_upto_region 1 with (fail)
 change Code.wp _ _ _ _ (w.alloc (.cells (faultC 0 0) 26))
 generalize w.alloc (.cells (faultC 0 0) 26) = w1 at *
 go_wp2_with (refine wpList_store_row rfl 26 _ _ rfl w.heap.size (faultC 2 0) ?_ ?_ 26 (faultC 0 0) HF.out (fault_size 2 0) ?_ (fault_one 2 0) ?_; exact rfl; exact rfl; exact rfl)
 exact bodyPost_ret (v := .tuple #[.slice none 0 0, .agg (faultC 2 0)]) (results_tmp_cell (P := Tryz.prog) (fn := Tryz.f7) rfl _ _ w.heap.size 26 _ (0, 0) _ rfl (setRow_heap _ _ _ _ _ (0, 0) HF.out) Tryz.underlying26 rfl (fault_size 2 0)) rfl ⟨below_row HB.out (Nat.le_refl _) _, rfl⟩
end Go.Proofs.YtfcccfplmdjndaaGreat

/- lex: Scan of texts that aren't too long. -/
namespace Go.Proofs.YtfcccfplmdjndaaGreat
open Go.RowKit

set_option maxRecDepth 100000 in
set_option maxHeartbeats 8000000 in
theorem scan_short (s : ByteArray) (hs : s.size ≤ 65536) (w : World) : Calls Tryz.prog 7 #[.string s] w (ScanR (scanT s.data.toList) w) := by
 obtain ⟨R, hR⟩ : ∃ R, R = scanT s.data.toList := ⟨_, rfl⟩
 rw [← hR]
 have hR0 := hid (show R = thenR [] (scanG (s.size + 1) (s.data.toList.drop (0 + gap false (s.data.toList.drop 0))) (0 + gap false (s.data.toList.drop 0)) ([] : List Tk).length) by
  rw [hR, thenR_nil]; unfold scanT; rw [if_neg (show ¬ 65536 < s.data.toList.length from Nat.not_lt.2 hs), show s.data.toList.length + 2 = (s.size + 1) + 1 from rfl, scanF_succ, List.drop_zero, Nat.zero_add]; rfl)
 clear hR
 have HSk := hid (fun (W : World) (j : Nat) (h : Cu W (w.heap.size + 1) s j) (hj : j ≤ s.size) => skip_any h hj hs)
 have HTk := hid (fun (W : World) (j : Nat) (h : Cu W (w.heap.size + 1) s j) (hj : j < s.size) => token_any h hj hs)
 have hs1 : (w.alloc (.cells (faultC 0 0) 26)).heap.size = w.heap.size + 1 := by simp
 have HB := hid ((Below.refl w.heap.size w).alloc (Nat.le_refl _) (.cells (faultC 0 0) 26))
 have HF := hid (heap_alloc_new w (.cells (faultC 0 0) 26))
 have hs' : ¬ (65536 : Int) < (s.size : Int) := by omega
 go_enter Tryz.func7, Tryz.ntmps7
 go_upto_region 1 with (fail)
 change Code.wp _ _ _ _ (w.alloc (.cells (faultC 0 0) 26))
 generalize w.alloc (.cells (faultC 0 0) 26) = w1 at *
 have HB2 := hid (HB.out.alloc (by omega) (.cells #[.string s, .int .i64 0] 66))
 have HF2 := hid (show (w1.alloc (.cells #[.string s, .int .i64 0] 66)).heap[w.heap.size]? = some (.cells (faultC 0 0) 26) from (Below.heap_alloc w1 _ _ (by omega)).trans HF.out)
 have HC2 := hid (show Cu (w1.alloc (.cells #[.string s, .int .i64 0] 66)) (w.heap.size + 1) s 0 from by
  rw [show w.heap.size + 1 = w1.heap.size by omega]
  exact heap_alloc_new w1 _)
 go_upto_region 5 with (fail)
 generalize w1.alloc (.cells #[.string s, .int .i64 0] 66) = w2 at *
 have HS := hid (show ScSt w s 0 (.slice none 0 0) [] w2 from ⟨HB2.out, HF2.out, HC2.out, ⟨rfl, .inl ⟨rfl, rfl⟩⟩⟩)
 clear HB HF HB2 HF2 HC2 hs1 hs'
 go_wp2_with fail
 refine (HSk.out w2 0 HS.out.cu (Nat.zero_le _)).mono ?_
 rintro e w3 ⟨rfl, hc3, hg3⟩
 have HS3 := hid (HS.out.step hg3 hc3)
 clear HS hc3 hg3
 have hg0 := gap_le false s.data.toList
 rw [List.drop_zero, Nat.zero_add] at hR0 HS3
 generalize gap false s.data.toList = j0 at *
 go_wp2_with fail
 go_loopg [4] (s.size + 1) (fun m v wr => ∃ (j : Nat) (ts : List Tk), j ≤ s.size ∧ s.size < m + j ∧ ts.length ≤ j ∧ Hid (R = thenR ts (scanG m (s.data.toList.drop j) j ts.length)) ∧ Hid (ScSt w s j v ts wr))
 case atStart => exact ⟨j0, [], hg0, by omega, by simp, hR0, HS3⟩
 case round =>
  clear hR0 HS3 hg0
  obtain ⟨j, ts, hj, hm, htj, HR, HS⟩ := hrel
  obtain ⟨m, rfl⟩ : ∃ m, gk = m + 1 := ⟨gk - 1, by omega⟩
  obtain ⟨h0, h1, f1⟩ := HS.out.cu.cells
  obtain ⟨A, cp, hv⟩ := owns_shape HS.out.row
  subst hv
  have HF := hid HS.out.res
  rcases Nat.lt_or_ge j s.size with hlt | hge
  ·have n1 : (j : Int) < (s.size : Int) := by omega
   have hne : s.data.toList.drop j ≠ [] := by
    rw [drop_eq (show j < s.data.toList.length from hlt)]; simp
   by_cases hn : ts.length = 8192
   ·rw [hn, scanG_full hne] at HR
    have hn' : (ts.length : Int) = 8192 := by omega
    have HE : Hid (R = .error (2, j)) := hid (by rw [HR.out]; rfl)
    clear HR
    go_wp2_with (refine wpList_store_row rfl 26 _ _ rfl w.heap.size (faultC 2 (j : Int)) ?_ ?_ 26 (faultC 0 0) HF.out (fault_size 2 (j : Int)) ?_ (fault_one 2 (j : Int)) ?_; exact rfl; exact rfl; exact rfl)
    rw [HE.out]
    exact bodyPost_ret (v := .tuple #[.slice none 0 0, .agg (faultC 2 (j : Int))]) (results_tmp_cell (P := Tryz.prog) (fn := Tryz.f7) rfl _ _ w.heap.size 26 _ (0, 0) _ rfl (setRow_heap _ _ _ _ _ (0, 0) HF.out) Tryz.underlying26 rfl (fault_size 2 (j : Int))) rfl ⟨below_row HS.out.bel (Nat.le_refl _) _, rfl⟩
   ·have hn' : ¬ (ts.length : Int) = 8192 := by omega
    have HTj := hid (HTk.out wr j HS.out.cu hlt)
    cases hfr : front (s.data.toList.drop j) with
    | error c =>
     rw [hfr] at HTj
     have hc0 : ¬ (c : Int) = 0 := by have := front_err hfr; omega
     have HE : Hid (R = .error (c, j)) := hid (by rw [HR.out, scanG_bad hne hn hfr]; rfl)
     clear HR hfr
     go_wp2_with fail
     refine HTj.out.mono ?_
     rintro e w4 ⟨hg4, rfl⟩
     have HF4 := hid (show w4.heap[w.heap.size]? = some (.cells (faultC 0 0) 26) from (hg4.block _ HS.out.res.lt (by intro e; injection e with e; omega)).trans HS.out.res)
     have HB4 := hid (show Below w.heap.size w w4 from ⟨hg4.os.trans HS.out.bel.os, hg4.tape.trans HS.out.bel.tape, hg4.output.trans HS.out.bel.output, Nat.le_trans HS.out.bel.size hg4.size, fun k hk => (hg4.block k (Nat.lt_of_lt_of_le hk HS.out.bel.size) (by intro e; injection e with e; omega)).trans (HS.out.bel.block k hk)⟩)
     clear hg4 HTj h0 h1 f1 HF HS
     go_wp2_with (refine wpList_store_row rfl 26 _ _ rfl w.heap.size (faultC (c : Int) (j : Int)) ?_ ?_ 26 (faultC 0 0) HF4.out (fault_size (c : Int) (j : Int)) ?_ (fault_one (c : Int) (j : Int)) ?_; exact rfl; exact rfl; exact rfl)
     rw [HE.out]
     exact bodyPost_ret (v := .tuple #[.slice none 0 0, .agg (faultC (c : Int) (j : Int))]) (results_tmp_cell (P := Tryz.prog) (fn := Tryz.f7) rfl _ _ w.heap.size 26 _ (0, 0) _ rfl (setRow_heap _ _ _ _ _ (0, 0) HF4.out) Tryz.underlying26 rfl (fault_size (c : Int) (j : Int))) rfl ⟨below_row HB4.out (Nat.le_refl _) _, rfl⟩
    | ok v =>
     obtain ⟨k, x, n⟩ := v
     rw [hfr] at HTj
     have hfl := front_len hfr
     rw [List.length_drop, show s.data.toList.length = s.size from rfl] at hfl
     have hgl := gap_le false (s.data.toList.drop (j + n))
     rw [List.length_drop, show s.data.toList.length = s.size from rfl] at hgl
     have HR2 : Hid (R = thenR (ts ++ [⟨k, j, x⟩]) (scanG m (s.data.toList.drop (j + n + gap false (s.data.toList.drop (j + n)))) (j + n + gap false (s.data.toList.drop (j + n))) (ts ++ [(⟨k, j, x⟩ : Tk)]).length)) := hid (by
      rw [HR.out, scanG_ok hne hn hfr, thenR_then, List.drop_drop, scanF_succ, List.drop_drop, List.length_append]
      rfl)
     clear HR hfr
     have hk0 : (1 : Int) ≤ (k : Int) := by omega
     obtain ⟨T, hT⟩ : ∃ T : Tk, T = ⟨k, j, x⟩ := ⟨_, rfl⟩
     have hTc : T.cells = [.int .i64 (k : Int), .int .i64 (j : Int), .string ⟨x.toArray⟩] := by rw [hT]; rfl
     rw [← hT] at HR2
     go_wp2_with fail
     refine HTj.out.mono ?_
     rintro e w4 ⟨hg4, rfl, hc4⟩
     generalize (⟨x.toArray⟩ : ByteArray) = X at *
     have HS4 := hid (HS.out.step hg4 hc4)
     have HS5 := hid (HS4.out.below ((Below.refl w4.heap.size w4).alloc (Nat.le_refl _) (.cells T.cells.toArray 70)))
     have HOwn := hid HS5.out.row
     have HCn := hid (new_tk w4 T)
     have hone := tk_ones T
     have hw4 : w.heap.size + 2 ≤ (w4.alloc (.cells T.cells.toArray 70)).heap.size := by
      have h3 := Blk.lt HS4.out.cu
      rw [World.size_alloc]
      omega
     have HSn := hid (fun (v' : Value) (W2 : World) (hown : W2.ownsRow (w.heap.size + 2) 70 3 v' (ts.length + 1) (flatK ts ++ T.cells)) hg => HS5.out.snoc (w := w) (t := T) hown hg)
     have HTc := hid hTc
     rw [hTc] at HCn hone hw4 HOwn HSn
     clear hg4 hc4 HTj h0 h1 f1 HF HS HS5 hTc
     have hk512 : ts.length + 1 ≤ 65537 := by omega
     obtain ⟨i0, hi0, hz0, hz1, hz2⟩ := info_parts info_tk
     go_wp2_with (refine wpList_append_own_at _ rfl _ _ 23 rfl (w.heap.size + 2) 70 i0 (.agg #[.int .i64 0, .int .i64 0, .string ⟨#[]⟩]) 3 32 Tryz.underlying23 hi0 hz0 hz1 hz2 rfl (by decide) _ _ _ rfl HOwn.out ⟨w4.heap.size, 0, none⟩ 1 1 [.int .i64 (k : Int), .int .i64 (j : Int), .string X] rfl rfl HCn.out hone (by unfold maxLen; omega) (by omega) hw4 ?_; intro u7 w7 hown7 hgrow7 _ _; have HS7 := hid (HSn.out u7 w7 hown7 hgrow7); clear hown7 hgrow7)
     refine (HSk.out w7 (j + n) HS7.out.cu (by omega)).mono ?_
     rintro e w8 ⟨rfl, hc8, hg8⟩
     have HS8 := hid (HS7.out.step hg8 hc8)
     clear hc8 hg8 HS7 HSn HOwn HCn hone hw4
     go_wp2_with fail
     go_roundg m
     case measure => omega
     case rel => exact ⟨j + n + gap false (s.data.toList.drop (j + n)), ts ++ [T], by omega, by omega, by simp; omega, HR2, HS8⟩
  ·obtain rfl : j = s.size := by omega
   have HE : Hid (R = .ok (ts ++ [(⟨5, s.size, []⟩ : Tk)])) := hid (by
    rw [HR.out, List.drop_eq_nil_of_le (show s.data.toList.length ≤ s.size from Nat.le_refl _), scanG_end]; rfl)
   clear HR
   have HS5 := hid (HS.out.below ((Below.refl wr.heap.size wr).alloc (Nat.le_refl _) (.cells (Tk.mk 5 s.size []).cells.toArray 70)))
   have HOwn := hid HS5.out.row
   have HCn := hid (new_tk wr (Tk.mk 5 s.size []))
   have hone := tk_ones (Tk.mk 5 s.size [])
   have hw4 : w.heap.size + 2 ≤ (wr.alloc (.cells (Tk.mk 5 s.size []).cells.toArray 70)).heap.size := by
    have h3 := Blk.lt HS.out.cu
    rw [World.size_alloc]
    omega
   have hTc : (Tk.mk 5 s.size []).cells = [.int .i64 5, .int .i64 (s.size : Int), .string ⟨#[]⟩] := rfl
   have HSn := hid (fun (v' : Value) (W2 : World) (hown : W2.ownsRow (w.heap.size + 2) 70 3 v' (ts.length + 1) (flatK ts ++ (Tk.mk 5 s.size []).cells)) hg => HS5.out.snoc (w := w) (t := Tk.mk 5 s.size []) hown hg)
   rw [hTc] at HCn hone hw4 HOwn HSn
   clear HF HS HS5 hTc
   have hk512 : ts.length + 1 ≤ 65537 := by omega
   obtain ⟨i0, hi0, hz0, hz1, hz2⟩ := info_parts info_tk
   go_wp2_with (first
    | (refine wpList_append_own_at _ rfl _ _ 23 rfl (w.heap.size + 2) 70 i0 (.agg #[.int .i64 0, .int .i64 0, .string ⟨#[]⟩]) 3 32 Tryz.underlying23 hi0 hz0 hz1 hz2 rfl (by decide) _ _ _ rfl HOwn.out ⟨wr.heap.size, 0, none⟩ 1 1 [.int .i64 5, .int .i64 (s.size : Int), .string ⟨#[]⟩] rfl rfl HCn.out hone (by unfold maxLen; omega) (by omega) hw4 ?_; intro u7 w7 hown7 hgrow7 _ _; have HS7 := hid (HSn.out u7 w7 hown7 hgrow7); clear hown7 hgrow7)
    | (refine wpList_store_row rfl 26 _ _ rfl w.heap.size (faultC 0 0) ?_ ?_ 26 (faultC 0 0) HS7.out.res (fault_size 0 0) ?_ (fault_one 0 0) ?_; exact rfl; exact rfl; exact rfl))
   rw [HE.out]
   exact bodyPost_ret (v := .tuple #[u7, .agg (faultC 0 0)]) (results_tmp_cell (P := Tryz.prog) (fn := Tryz.f7) rfl _ _ w.heap.size 26 _ (0, 0) _ rfl (setRow_heap _ _ _ _ _ (0, 0) HS7.out.res) Tryz.underlying26 rfl (fault_size 0 0)) rfl ⟨below_row HS7.out.bel (Nat.le_refl _) _, u7, rfl, by
    have h := HS7.out.row
    refine owns_base (owns_keep h (fun b hb _ => setRow_other _ _ _ _ (by omega))) (by omega)⟩
theorem scan_any (s : ByteArray) (w : World) : Calls Tryz.prog 7 #[.string s] w (ScanR (scanT s.data.toList) w) := by
 rcases Nat.lt_or_ge 65536 s.size with h | h
 ·exact scan_long s h w
 ·exact scan_short s h w
end Go.Proofs.YtfcccfplmdjndaaGreat

/- lex: Show. -/
namespace Go.Proofs.YtfcccfplmdjndaaGreat
open Go.RowKit

def RdK (w : World) (A : Option Addr) (ts : List Tk) : Prop :=
 0 < ts.length → ∃ b o, A = some ⟨b, o, none⟩ ∧ b < w.heap.size ∧ ∀ j (h : j < ts.length), w.cell? ⟨b, o + j * 3, none⟩ = some (.int .i64 (ts[j].k : Int)) ∧ w.cell? ⟨b, o + j * 3 + 1, none⟩ = some (.int .i64 (ts[j].p : Int)) ∧ w.cell? ⟨b, o + j * 3 + 2, none⟩ = some (.string ⟨ts[j].x.toArray⟩)
theorem RdK.keep {w w' : World} {A : Option Addr} {ts : List Tk} (h : RdK w A ts) (hb : Below w.heap.size w w') : RdK w' A ts := fun h0 => by
 obtain ⟨b, o, e, hl, hc⟩ := h h0
 refine ⟨b, o, e, Nat.lt_of_lt_of_le hl hb.size, fun j hj => ?_⟩
 have hbl := hb.block b hl
 obtain ⟨h1, h2, h3⟩ := hc j hj
 exact ⟨(World.cell?_of_block (w := w) (w' := w') (a := ⟨b, _, none⟩) hbl).trans h1, (World.cell?_of_block (w := w) (w' := w') (a := ⟨b, _, none⟩) hbl).trans h2, (World.cell?_of_block (w := w) (w' := w') (a := ⟨b, _, none⟩) hbl).trans h3⟩
theorem RdK.take {w : World} {A : Option Addr} {ts : List Tk} (h : RdK w A ts) (n : Nat) : RdK w A (ts.take n) := fun h0 => by
 rw [List.length_take] at h0
 obtain ⟨b, o, e, hl, hc⟩ := h (by omega)
 refine ⟨b, o, e, hl, fun j hj => ?_⟩
 have hj' : j < ts.length := by rw [List.length_take] at hj; omega
 have := hc j hj'
 simpa [List.getElem_take] using this
theorem RdK.of_own {w : World} {base : Nat} {A : Option Addr} {n c : Nat} {ts : List Tk} (h : w.ownsRow base 70 3 (.slice A n c) n (flatK ts)) (hn : n = ts.length) : RdK w A ts := fun h0 => by
 rcases h.2 with ⟨_, hz⟩ | ⟨g, cap, cur, hv, hb, hg, hnc, hcm, hcs, ht⟩
 ·omega
 ·injection hv with hA _ _
  refine ⟨g, 0, hA, (Array.getElem?_eq_some_iff.1 hg).1, fun j hj => ?_⟩
  have key : ∀ i (hi : i < 3), w.cell? ⟨g, 0 + j * 3 + i, none⟩ = ts[j].cells[i]? := by
   intro i hi
   rw [Nat.zero_add, cell_of_row w g (j * 3 + i) cur _ (0, 0) hg]
   have e := flatK_get ts j i hj hi
   rw [← ht, List.getElem?_take_of_lt (by omega)] at e
   rw [← Array.getElem?_toList, e]
  exact ⟨key 0 (by omega), key 1 (by omega), key 2 (by omega)⟩
def shT (t : Tk) : List UInt8 := if t.k = 3 then 47 :: (t.x ++ [47]) else t.x
end Go.Proofs.YtfcccfplmdjndaaGreat
