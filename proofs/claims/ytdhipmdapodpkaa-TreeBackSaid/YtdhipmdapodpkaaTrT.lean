/- tree: a list of parts read. -/
import Derived.Test.YtdhipmdapodpkaaTrS
namespace Go.Proofs.Ytdhipmdapodpkaa
set_option linter.unusedSimpArgs false
set_option linter.unusedVariables false
open Go.RowKit

theorem agg_box' (w : World) (x : TV) : Blk (w.alloc (.cells #[.int .u64 (x.num : Int), .bool x.bl, .slice x.D.A x.D.n x.D.c, .slice x.K.A x.K.n x.K.c] 26)) w.heap.size 26 x.cells := heap_alloc_new w _
set_option maxRecDepth 100000 in
set_option maxHeartbeats 4000000 in
theorem parts_read {s : ByteArray} {d : Nat} (HT : TreeAt s d) (hd : d ≤ 400) (hs : s.size ≤ 1048576) {w : World} {g i0 : Nat} (h : Rd w g s i0) (hi : i0 ≤ s.size) :
    Calls Try.prog 37 #[.pointer (some ⟨g, 0, none⟩), .int .i64 (((401 - d : Nat) : Nat) : Int)] w (PostR (pPartL s.data.toList (pTree s.data.toList d) (s.data.toList.length + 1) [] i0) (fun ks w' v => KidsT w' w.heap.size v ks) (.slice none 0 0) w g s) := by
  have hsl : s.data.toList.length = s.size := rfl
  have HGl := hid (Blk.lt h)
  have HTr := hid HT
  obtain ⟨P, hP⟩ : ∃ P, P = pPartL s.data.toList (pTree s.data.toList d) (s.data.toList.length + 1) [] i0 := ⟨_, rfl⟩
  rw [← hP]
  obtain ⟨RR, hRR⟩ : ∃ RR : Ending → World → Prop, RR = PostR P (fun ks w' v => KidsT w' w.heap.size v ks) (.slice none 0 0) w g s := ⟨_, rfl⟩
  rw [← hRR]
  have HRR := hid hRR
  have HS0 := hid (show KtS w g s i0 (.slice none 0 0) [] w from ⟨h, KidsT.nil _ _, Chg.refl _ _⟩)
  have HP0 := hid hP
  obtain ⟨it0, hit0, hz0, hz1, hz2⟩ := info_parts info_tree
  have HI0 := hid (And.intro hit0 (And.intro hz0 (And.intro hz1 hz2)))
  obtain ⟨deep, hdeep⟩ : ∃ deep : Nat, deep = 401 - d := ⟨_, rfl⟩
  have HDp := hid hdeep
  rw [← hdeep]
  have HTk := hid (fun (W : World) (j : Nat) (hj : j ≤ s.size) (h : Rd W g s j) => took_yes h hj hs)
  have HTn := hid (fun (W : World) (j : Nat) (hj : j ≤ s.size) (h : Rd W g s j) => took_no h hj hs)
  clear hRR hP h hit0 hz0 hz1 hz2 hdeep HT
  go_enter Try.func37, Try.ntmps37
  go_wp2_with fail
  go_loopg [6] (s.size + 1) (fun m v wr => ∃ (i : Nat) (ts : List TT) (A : Option Addr) (c : Nat), v = .slice A ts.length c ∧ i ≤ s.size ∧ s.size < m + i ∧ ts.length ≤ i ∧ Hid (P = pPartL s.data.toList (pTree s.data.toList d) m ts i) ∧ Hid (KtS w g s i (.slice A ts.length c) ts wr))
  case atStart => exact ⟨i0, [], none, 0, rfl, hi, by omega, by simp, HP0, HS0⟩
  case round =>
    clear HS0 HP0
    obtain ⟨i, ts, A, c, rfl, hi1, hm, hal, HP, HD⟩ := hrel
    obtain ⟨m, rfl⟩ : ∃ m, gk = m + 1 := ⟨gk - 1, by omega⟩
    have hi2 : i ≤ 1048576 := by omega
    have HT1 := hid (HTr.out wr g i HD.out.rd hi1)
    rw [← HDp.out] at HT1
    obtain ⟨tl, htl⟩ : ∃ tl, tl = ts.length := ⟨_, rfl⟩
    have HTl := hid htl
    rw [← htl] at hal ⊢
    have hD : KtS w g s i (.slice A tl c) ts wr := by rw [htl]; exact HD.out
    have HD2 := hid hD
    clear htl hD HD
    cases hr : pTree s.data.toList d i with
    | error ec =>
      rw [hr] at HT1
      have HPe := hid (show P = .error ec by rw [HP.out]; unfold pPartL; rw [hr])
      have HE := hid (HT1.out.mono fun e w' hh => hh.er)
      clear HT1 hr HP
      go_upto_region 2 with (fail)
      by_cases hec : ec = 0
      · subst hec
        go_wp2_with (go_at_call 25; (with_reducible refine HE.out.mono ?_); rintro e w1 ⟨h0, _⟩; exact absurd rfl h0)
      have heci : ¬ (ec : Int) = 0 := by omega
      have hecb : ((ec : Int) != 0) = true := by simpa using heci
      go_wp2_with (go_at_call 25; (with_reducible refine HE.out.mono ?_); rintro e w1 ⟨_, rfl, ⟨j1, hr1⟩, hc1⟩; have HK1 := hid (HD2.out.went HGl.out hr1 hc1); clear hr1 hc1; (try unfold TV.zero); (try unfold TV.val); (try dsimp only))
      show RR (.returned (.tuple #[.slice none 0 0, .int .i64 (ec : Int)])) _
      rw [HRR.out]
      have hk := HK1.out.keep ((Below.refl _ _).alloc (Nat.le_refl _) (.cells #[.int .u64 0, .bool false, .slice none 0 0, .slice none 0 0] 26))
      exact ⟨⟨j1, hk.rd, .inr ⟨ec, hec, HPe.out, rfl⟩⟩, hk.ch⟩
    | ok p =>
      obtain ⟨t, j⟩ := p
      rw [hr] at HT1
      have HPe := hid (show P = if nx s.data.toList j = 41 then .ok (ts ++ [t], j + 1) else if nx s.data.toList j = 44 then pPartL s.data.toList (pTree s.data.toList d) m (ts ++ [t]) (j + 1) else .error 5 by rw [HP.out]; conv => lhs; unfold pPartL; rw [hr])
      have hlt := pTree_lt d hr
      have HE := hid (HT1.out.mono fun e w' hh => hh.ok)
      have HLt := hid hlt
      clear HT1 hr HP hlt
      go_upto_region 3 with (go_at_call 25; (with_reducible refine HE.out.mono ?_); rintro e w1 ⟨_, rfl, ⟨x, rfl, hrep⟩, hr1, hc1⟩; have HK1 := hid (HD2.out.went HGl.out hr1 hc1); have HRp := hid hrep; clear hr1 hc1 hrep; (try unfold TV.val); (try dsimp only))
      obtain ⟨vs, hv1, hv2, hv3⟩ := HK1.out.kids.out
      have hvb : ∀ k, (Value.slice A tl c).ownBlock = some k → w.heap.size ≤ k ∧ k < wr.heap.size := fun k hk => by
        obtain ⟨vs0, _, h2, _⟩ := HD2.out.kids.out
        exact owns_block h2 k hk
      have hx1 : Rep w1 (fun b => w.heap.size ≤ b ∧ (Value.slice A tl c).ownBlock ≠ some b) x t := HRp.out.mono (fun _ _ _ => rfl) (Nat.le_refl _) (fun b hb _ => ⟨Nat.le_trans HD2.out.ch.size hb, fun e => by have := (hvb b e).2; omega⟩)
      have hb12 := (Below.refl w1.heap.size w1).alloc (Nat.le_refl _) (.cells #[.int .u64 (x.num : Int), .bool x.bl, .slice x.D.A x.D.n x.D.c, .slice x.K.A x.K.n x.K.c] 26)
      have hx2 := agg_box' w1 x
      have hs2 : (w1.alloc (.cells #[.int .u64 (x.num : Int), .bool x.bl, .slice x.D.A x.D.n x.D.c, .slice x.K.A x.K.n x.K.c] 26)).heap.size = w1.heap.size + 1 := by simp
      have hb23 := (Below.refl (w1.heap.size + 1) (w1.alloc (.cells #[.int .u64 (x.num : Int), .bool x.bl, .slice x.D.A x.D.n x.D.c, .slice x.K.A x.K.n x.K.c] 26))).alloc (Nat.le_of_eq hs2.symm) (.cells #[.int .u64 (x.num : Int), .bool x.bl, .slice x.D.A x.D.n x.D.c, .slice x.K.A x.K.n x.K.c] 26)
      have hx3 := agg_box' (w1.alloc (.cells #[.int .u64 (x.num : Int), .bool x.bl, .slice x.D.A x.D.n x.D.c, .slice x.K.A x.K.n x.K.c] 26)) x
      rw [hs2] at hx3
      have hb13 : Below w1.heap.size w1 ((w1.alloc (.cells #[.int .u64 (x.num : Int), .bool x.bl, .slice x.D.A x.D.n x.D.c, .slice x.K.A x.K.n x.K.c] 26)).alloc (.cells #[.int .u64 (x.num : Int), .bool x.bl, .slice x.D.A x.D.n x.D.c, .slice x.K.A x.K.n x.K.c] 26)) := hb12.trans (hb23.mono (by omega))
      rw [← HTl.out] at hv2
      have HOw := hid (show ((w1.alloc (.cells #[.int .u64 (x.num : Int), .bool x.bl, .slice x.D.A x.D.n x.D.c, .slice x.K.A x.K.n x.K.c] 26)).alloc (.cells #[.int .u64 (x.num : Int), .bool x.bl, .slice x.D.A x.D.n x.D.c, .slice x.K.A x.K.n x.K.c] 26)).ownsRow w.heap.size 26 4 (.slice A tl c) tl (flatV vs) from owns_chg hv2 (Chg.of_below hb13 (fun _ => False)) (fun _ _ => id))
      have HX3 := hid hx3
      have HV := hid (And.intro hv1 (And.intro hv3 (And.intro hx1 (And.intro hb13 hvb))))
      have HRd := hid (HK1.out.rd.keep hb13)
      have HCh := hid (HK1.out.ch.trans (Chg.of_below hb13 _))
      obtain ⟨z0, z1, z2, z3⟩ := BoxT.four (g := w1.heap.size) (v := x) hx2
      have HS3 := hid (show ((w1.alloc (.cells #[.int .u64 (x.num : Int), .bool x.bl, .slice x.D.A x.D.n x.D.c, .slice x.K.A x.K.n x.K.c] 26)).alloc (.cells #[.int .u64 (x.num : Int), .bool x.bl, .slice x.D.A x.D.n x.D.c, .slice x.K.A x.K.n x.K.c] 26)).heap.size = w1.heap.size + 1 + 1 by simp)
      clear hv1 hv2 hv3 hvb hx1 hb12 hx2 hs2 hb23 hx3 hb13
      go_upto_region 6 with (refine wpList_append_own_at _ rfl _ _ 24 rfl w.heap.size 26 it0 (.agg #[.int .u64 0, .bool false, .slice none 0 0, .slice none 0 0]) 4 64 Try.underlying24 HI0.out.1 HI0.out.2.1 HI0.out.2.2.1 HI0.out.2.2.2 rfl (by decide) _ _ _ rfl HOw.out ⟨w1.heap.size + 1, 0, none⟩ 1 1 x.cells rfl rfl (by intro j u hj; rw [addr_add, Nat.zero_add, Blk.at HX3.out]; exact hj) (tv_ones x) (by unfold maxLen; omega) (by omega) (by have := HCh.out.size; exact this) ?_; intro v2 w4 ho2 hg2 _ hnew; obtain ⟨A2, c2, rfl⟩ := owns_shape ho2; have HO2 := hid ho2; have HG2 := hid hg2; have HNw := hid hnew; clear ho2 hg2 hnew z0 z1 z2 z3)
      obtain ⟨hv1, hv3, hx1, hb13, hvb⟩ := HV.out
      have HK4 := hid (show KtS w g s j (.slice A2 (tl + 1) c2) (ts ++ [t]) w4 from
        ⟨Blk.grown HRd.out HG2.out (fun e => by have := (hvb g e.symm).1; have := HGl.out; omega), KidsT.snoc vs hv1 hv3 hx1 hb13 (by rw [← HTl.out]; exact HO2.out) HG2.out HNw.out, Chg.own HCh.out HG2.out (fun k hk => (hvb k hk).1)⟩)
      have hlen : (ts ++ [t]).length = tl + 1 := by rw [List.length_append, ← HTl.out]; rfl
      have HLen := hid hlen
      have hj1 : j ≤ s.size := HLt.out.2
      have HLe := hid (show i + 1 ≤ j by have := HLt.out.1; have := wT_pos t; omega)
      clear hv1 hv3 hx1 hb13 hvb HOw HX3 HRd HCh HS3 HO2 HG2 HNw hlen HV
      by_cases c41 : nx s.data.toList j = 41
      · have HTy := hid (show Calls Try.prog 34 #[.pointer (some ⟨g, 0, none⟩), .int .u8 41] w4 _ from HTk.out w4 j hj1 HK4.out.rd 41 c41)
        go_wp2_with (go_at_call 34; (with_reducible refine HTy.out.mono ?_); rintro e w5 ⟨rfl, hr5, hc5⟩; have HK5 := hid (HK4.out.went HGl.out hr5 hc5); clear hr5 hc5)
        show RR (.returned (.tuple #[.slice A2 (tl + 1) c2, .int .i64 0])) _
        rw [HRR.out]
        exact ⟨⟨j + 1, HK5.out.rd, .inl ⟨ts ++ [t], _, by rw [HPe.out, if_pos c41], rfl, HK5.out.kids⟩⟩, HK5.out.ch⟩
      · have HTq := hid (show Calls Try.prog 34 #[.pointer (some ⟨g, 0, none⟩), .int .u8 41] w4 _ from HTn.out w4 j hj1 HK4.out.rd 41 c41)
        by_cases c44 : nx s.data.toList j = 44
        · have HT4 := hid (fun W (hb : Below w4.heap.size w4 W) => show Calls Try.prog 34 #[.pointer (some ⟨g, 0, none⟩), .int .u8 44] W _ from HTk.out W j hj1 (HK4.out.keep hb).rd 44 c44)
          have HPn := hid (show P = pPartL s.data.toList (pTree s.data.toList d) m (ts ++ [t]) (j + 1) by rw [HPe.out, if_neg c41, if_pos c44])
          have hjs : j < s.size := nx_lt (l := s.data.toList) (by omega)
          go_wp2_with (first
            | (go_at_call 34; (with_reducible refine HTq.out.mono ?_); rintro e w5 ⟨rfl, hb5⟩; clear HTq; have HB5 := hid hb5; clear hb5)
            | (go_at_call 34; (with_reducible refine (HT4.out _ HB5.out).mono ?_); rintro e w6 ⟨rfl, hr6, hc6⟩; have HK6 := hid ((HK4.out.keep HB5.out).went HGl.out hr6 hc6); clear hr6 hc6))
          go_roundg m
          case measure => omega
          case rel => exact ⟨j + 1, ts ++ [t], A2, c2, by rw [HLen.out], by omega, by have := HLe.out; omega, by rw [HLen.out]; have := HLe.out; omega, HPn, by rw [HLen.out]; exact HK6⟩
        · have HT4 := hid (fun W (hb : Below w4.heap.size w4 W) => show Calls Try.prog 34 #[.pointer (some ⟨g, 0, none⟩), .int .u8 44] W _ from HTn.out W j hj1 (HK4.out.keep hb).rd 44 c44)
          go_wp2_with (first
            | (go_at_call 34; (with_reducible refine HTq.out.mono ?_); rintro e w5 ⟨rfl, hb5⟩; clear HTq; have HB5 := hid hb5; clear hb5)
            | (go_at_call 34; (with_reducible refine (HT4.out _ HB5.out).mono ?_); rintro e w6 ⟨rfl, hb6⟩; have HK6 := hid ((HK4.out.keep HB5.out).keep hb6); clear hb6))
          show RR (.returned (.tuple #[.slice none 0 0, .int .i64 5])) _
          rw [HRR.out]
          exact ⟨⟨j, HK6.out.rd, .inr ⟨5, by decide, by rw [HPe.out, if_neg c41, if_neg c44], rfl⟩⟩, HK6.out.ch⟩
end Go.Proofs.Ytdhipmdapodpkaa
