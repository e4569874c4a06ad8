/- tree: Parse. -/
import Derived.Test.YtdhipmdapodpkaaTrU
namespace Go.Proofs.Ytdhipmdapodpkaa
set_option linter.unusedSimpArgs false
set_option linter.unusedVariables false
open Go.RowKit

theorem tree_read {s : ByteArray} (hs : s.size ≤ 1048576) : ∀ d, d ≤ 400 → TreeAt s d := by
  intro d
  induction d using Nat.strongRecOn with
  | _ d ih => exact fun hd => tree_zero hs d hd (fun e he => ih e he (by omega))
set_option maxRecDepth 100000 in
set_option maxHeartbeats 4000000 in
theorem parse_any (s : ByteArray) (hs : s.size ≤ 1048576) (w : World) :
    Calls Try.prog 10 #[.string s] w fun e w' => ((∃ t x, pParse s.data.toList = .ok t ∧ e = .returned (.tuple #[TV.val x, .int .i64 0]) ∧ Rep w' (w.heap.size ≤ ·) x t) ∨ (∃ c : Nat, c ≠ 0 ∧ pParse s.data.toList = .error c ∧ e = .returned (.tuple #[TV.val TV.zero, .int .i64 (c : Int)]))) ∧ Below w.heap.size w w' := by
  have hsl : s.data.toList.length = s.size := rfl
  obtain ⟨P, hP⟩ : ∃ P, P = pParse s.data.toList := ⟨_, rfl⟩
  rw [← hP]
  obtain ⟨RR, hRR⟩ : ∃ RR : Ending → World → Prop, RR = fun e w' => ((∃ t x, P = .ok t ∧ e = .returned (.tuple #[TV.val x, .int .i64 0]) ∧ Rep w' (w.heap.size ≤ ·) x t) ∨ (∃ c : Nat, c ≠ 0 ∧ P = .error c ∧ e = .returned (.tuple #[TV.val TV.zero, .int .i64 (c : Int)]))) ∧ Below w.heap.size w w' := ⟨_, rfl⟩
  rw [← hRR]
  have HRR := hid hRR
  have HP := hid (show P = (match pTree s.data.toList 400 0 with
    | .error e => .error e
    | .ok (t, i) => if i < s.data.toList.length then .error 5 else .ok t) by rw [hP]; unfold pParse; rw [if_neg (by rw [hsl]; omega)]; rfl)
  obtain ⟨hzb, hzz⟩ := zero_box w
  have hrb := (Below.refl (w.alloc (.cells #[.int .u64 0, .bool false, .slice none 0 0, .slice none 0 0] 26)).heap.size _).alloc (Nat.le_refl _) (.cells #[.string s, .int .i64 0] 51)
  have hrr : Blk ((w.alloc (.cells #[.int .u64 0, .bool false, .slice none 0 0, .slice none 0 0] 26)).alloc (.cells #[.string s, .int .i64 0] 51)) (w.alloc (.cells #[.int .u64 0, .bool false, .slice none 0 0, .slice none 0 0] 26)).heap.size 51 [.string s, .int .i64 0] := heap_alloc_new _ _
  have hsz : (w.alloc (.cells #[.int .u64 0, .bool false, .slice none 0 0, .slice none 0 0] 26)).heap.size = w.heap.size + 1 := by simp
  have hz2 := (hrb.block _ (Array.getElem?_eq_some_iff.1 hzz).1).trans hzz
  have hb2 := hzb.trans (hrb.mono hzb.size)
  rw [hsz] at hrr
  have HR := hid (show Rd _ (w.heap.size + 1) s 0 from hrr)
  have HZ := hid hz2
  have HB := hid hb2
  clear hRR hP hzb hzz hrb hrr hsz hz2 hb2
  go_enter Try.func10, Try.ntmps10
  go_upto_region 4 with (fail)
  generalize (w.alloc (.cells #[.int .u64 0, .bool false, .slice none 0 0, .slice none 0 0] 26)).alloc (.cells #[.string s, .int .i64 0] 51) = w1 at *
  have HT := hid (show Calls Try.prog 25 #[.pointer (some ⟨w.heap.size + 1, 0, none⟩), .int .i64 1] w1 _ from tree_read hs 400 (Nat.le_refl _) w1 (w.heap.size + 1) 0 HR.out (Nat.zero_le _))
  cases hp : pTree s.data.toList 400 0 with
  | error ec =>
    rw [hp] at HT HP
    have HPe := hid (show P = .error ec from HP.out)
    have HTe := hid (HT.out.mono fun e w' hh => hh.er)
    clear HT HP hp
    by_cases hec : ec = 0
    · subst hec
      go_wp2_with (go_at_call 25; (with_reducible refine HTe.out.mono ?_); rintro e w2 ⟨h0, _⟩; exact absurd rfl h0)
    have heci : ¬ (ec : Int) = 0 := by omega
    have hecb : ((ec : Int) != 0) = true := by simpa using heci
    have hecc : ((ec : Int) == 0) = false := by simpa using heci
    go_upto_region 8 with (go_at_call 25; (with_reducible refine HTe.out.mono ?_); rintro e w2 ⟨_, rfl, ⟨j2, hr2⟩, hc2⟩; have HZ2 := hid ((hc2.block w.heap.size (Array.getElem?_eq_some_iff.1 HZ.out).1 (by omega)).trans HZ.out); have HB2 := hid (Chg.below HB.out hc2 HB.out.size (fun k e => by omega)); clear hr2 hc2; (try unfold TV.zero); (try unfold TV.val); (try dsimp only))
    have hal := (Below.refl w2.heap.size w2).alloc (Nat.le_refl _) (.cells #[.int .u64 0, .bool false, .slice none 0 0, .slice none 0 0] 26)
    have HZ3 := hid ((hal.block _ (Array.getElem?_eq_some_iff.1 HZ2.out).1).trans HZ2.out)
    have HB3 := hid (HB2.out.trans (hal.mono HB2.out.size))
    clear hal
    generalize w2.alloc (.cells #[.int .u64 0, .bool false, .slice none 0 0, .slice none 0 0] 26) = w3 at *
    have HF := hid (setRow_heap _ w.heap.size _ #[.int .u64 0, .bool false, .slice none 0 0, .slice none 0 0] _ _ HZ3.out)
    go_wp2_with ((with_reducible refine wpList_store_row rfl 26 _ _ rfl w.heap.size #[.int .u64 0, .bool false, .slice none 0 0, .slice none 0 0] ?_ ?_ 26 #[.int .u64 0, .bool false, .slice none 0 0, .slice none 0 0] HZ3.out (tv4_size _ _ _ _) ?_ (tv4_one rfl rfl rfl rfl) ?_); exact rfl; exact rfl; exact rfl)
    refine bodyPost_ret (v := .tuple #[.agg #[.int .u64 0, .bool false, .slice none 0 0, .slice none 0 0], .int .i64 (ec : Int)]) (results_cell_tmp (P := Try.prog) (fn := Try.f10) rfl _ _ w.heap.size 26 _ (0, 0) _ rfl HF.out Try.underlying26 rfl (by kernel_rfl)) rfl ?_
    rw [HRR.out]
    exact ⟨.inr ⟨ec, hec, HPe.out, rfl⟩, below_row HB3.out (Nat.le_refl _) _⟩
  | ok p =>
    obtain ⟨t, i⟩ := p
    have hlt := pTree_lt 400 hp
    rw [hp] at HT HP
    have HPo := hid (show P = (if i < s.size then .error 5 else .ok t) from HP.out)
    have HTe := hid (HT.out.mono fun e w' hh => hh.ok)
    have hi : i ≤ s.size := hlt.2
    clear HT HP hp hlt
    go_upto_region 5 with (go_at_call 25; (with_reducible refine HTe.out.mono ?_); rintro e w2 ⟨_, rfl, ⟨x, rfl, hrep⟩, hr2, hc2⟩; have HZ2 := hid ((hc2.block w.heap.size (Array.getElem?_eq_some_iff.1 HZ.out).1 (by omega)).trans HZ.out); have HB2 := hid (Chg.below HB.out hc2 HB.out.size (fun k e => by omega)); have HR2 := hid hr2; have HRp := hid hrep; clear hr2 hc2 hrep; (try unfold TV.val); (try dsimp only))
    have hal := (Below.refl w2.heap.size w2).alloc (Nat.le_refl _) (.cells #[.int .u64 (x.num : Int), .bool x.bl, .slice x.D.A x.D.n x.D.c, .slice x.K.A x.K.n x.K.c] 26)
    have HZ3 := hid ((hal.block _ (Array.getElem?_eq_some_iff.1 HZ2.out).1).trans HZ2.out)
    have HB3 := hid (HB2.out.trans (hal.mono HB2.out.size))
    have HR3 := hid (HR2.out.keep hal)
    have HRp3 := hid (HRp.out.keep hal)
    have HL := hid HB.out.size
    have HL1 := hid (Blk.lt HR.out)
    obtain ⟨y0, y1, y2, y3⟩ := BoxT.four (v := x) (agg_box' w2 x)
    obtain ⟨r0, r1, _⟩ := HR3.out.two
    clear hal HZ2 HB2 HR2 HRp HR HZ HB
    generalize w2.alloc (.cells #[.int .u64 (x.num : Int), .bool x.bl, .slice x.D.A x.D.n x.D.c, .slice x.K.A x.K.n x.K.c] 26) = w3 at *
    by_cases c : i < s.size
    · have c' : (i : Int) < (s.size : Int) := by omega
      have HPe := hid (show P = .error 5 by rw [HPo.out, if_pos c])
      have HF := hid (setRow_heap _ w.heap.size _ #[.int .u64 0, .bool false, .slice none 0 0, .slice none 0 0] _ _ HZ3.out)
      go_wp2_with ((with_reducible refine wpList_store_row rfl 26 _ _ rfl w.heap.size #[.int .u64 0, .bool false, .slice none 0 0, .slice none 0 0] ?_ ?_ 26 #[.int .u64 0, .bool false, .slice none 0 0, .slice none 0 0] HZ3.out (tv4_size _ _ _ _) ?_ (tv4_one rfl rfl rfl rfl) ?_); exact rfl; exact rfl; exact rfl)
      refine bodyPost_ret (v := .tuple #[.agg #[.int .u64 0, .bool false, .slice none 0 0, .slice none 0 0], .int .i64 (5 : Int)]) (results_cell_tmp (P := Try.prog) (fn := Try.f10) rfl _ _ w.heap.size 26 _ (0, 0) _ rfl HF.out Try.underlying26 rfl (by kernel_rfl)) rfl ?_
      rw [HRR.out]
      exact ⟨.inr ⟨5, by decide, HPe.out, rfl⟩, below_row HB3.out (Nat.le_refl _) _⟩
    · have c' : ¬ (i : Int) < (s.size : Int) := by omega
      have HPe := hid (show P = .ok t by rw [HPo.out, if_neg c])
      have HF := hid (setRow_heap _ w.heap.size _ #[.int .u64 (x.num : Int), .bool x.bl, .slice x.D.A x.D.n x.D.c, .slice x.K.A x.K.n x.K.c] _ _ HZ3.out)
      go_wp2_with ((with_reducible refine wpList_store_row rfl 26 _ _ rfl w.heap.size #[.int .u64 (x.num : Int), .bool x.bl, .slice x.D.A x.D.n x.D.c, .slice x.K.A x.K.n x.K.c] ?_ ?_ 26 #[.int .u64 0, .bool false, .slice none 0 0, .slice none 0 0] HZ3.out (tv4_size _ _ _ _) ?_ (tv4_one rfl rfl rfl rfl) ?_); exact rfl; exact rfl; exact rfl)
      refine bodyPost_ret (v := .tuple #[.agg #[.int .u64 (x.num : Int), .bool x.bl, .slice x.D.A x.D.n x.D.c, .slice x.K.A x.K.n x.K.c], .int .i64 (0 : Int)]) (results_cell_tmp (P := Try.prog) (fn := Try.f10) rfl _ _ w.heap.size 26 _ (0, 0) _ rfl HF.out Try.underlying26 rfl (by kernel_rfl)) rfl ?_
      rw [HRR.out]
      exact ⟨.inl ⟨t, x, HPe.out, rfl, HRp3.out.mono (fun b hb _ => setRow_other _ _ _ _ (by have := HL.out; have := HL1.out; omega)) (by simp [World.setRow]) (fun b hb _ => Nat.le_trans HL.out hb)⟩, below_row HB3.out (Nat.le_refl _) _⟩
end Go.Proofs.Ytdhipmdapodpkaa
