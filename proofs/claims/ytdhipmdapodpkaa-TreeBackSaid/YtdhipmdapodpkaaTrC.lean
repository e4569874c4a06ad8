/- tree: Same. -/
import Derived.Test.YtdhipmdapodpkaaTrB
import Derived.Laws.StructEq
import Derived.Shelf.Abstract
namespace Go.Proofs.Ytdhipmdapodpkaa
set_option linter.unusedSimpArgs false
set_option linter.unusedVariables false
open Go.RowKit

theorem row_new (w : World) (T : TypeId) (zs cs : Array Value) : Below w.heap.size w ((w.alloc (.cells zs T)).setRow w.heap.size cs) :=
  below_row ((Below.refl _ _).alloc (Nat.le_refl _) _) (Nat.le_refl _) cs
theorem tv_range {w : World} {b o : Nat} {v : TV} (h : w.rangeAt b o v.cells) : w.cell? ⟨b, o, none⟩ = some (.int .u64 (v.num : Int)) ∧ w.cell? ⟨b, o + 1, none⟩ = some (.bool v.bl) ∧ w.cell? ⟨b, o + 2, none⟩ = some (.slice v.D.A v.D.n v.D.c) ∧ w.cell? ⟨b, o + 3, none⟩ = some (.slice v.K.A v.K.n v.K.c) :=
  ⟨h 0 _ rfl, h 1 _ rfl, h 2 _ rfl, h 3 _ rfl⟩
theorem str_eq (l m : List UInt8) : (({ data := l.toArray } : ByteArray).toList == ({ data := m.toArray } : ByteArray).toList) = (l == m) := by
  rw [show ({ data := l.toArray } : ByteArray).toList = l from by simp [ByteArray.toList_eq], show ({ data := m.toArray } : ByteArray).toList = m from by simp [ByteArray.toList_eq]]
set_option maxRecDepth 100000 in
theorem beq_any {w : World} {A B : Option Addr} {n c m k : Nat} {l l2 : List UInt8} (h1 : RdB w A n l) (h2 : RdB w B m l2) :
    Calls Try.prog 28 #[.slice A n c, .slice B m k] w fun e w' => e = .returned (.bool (l == l2)) ∧ w' = w := by
  have e1 := run_str h1 c
  have e2 := run_str h2 k
  clear h1 h2
  go_enter Try.func28, Try.ntmps28
  go_wp2
  go_ret
  exact ⟨rfl, rfl⟩

/-- What Same promises of two, whatever they stand for. -/
def SameAt (t u : TT) : Prop := ∀ (v x : TV) (w : World) (P Q : Nat → Prop), Rep w P v t → Rep w Q x u → wT t ≤ 1048576 → wT u ≤ 1048576 →
  Calls Try.prog 12 #[v.val, x.val] w fun e w' => e = .returned (.bool (smT t u)) ∧ Below w.heap.size w w'
set_option maxRecDepth 100000 in
set_option maxHeartbeats 4000000 in
theorem eqT_any {ks us : List TT} (ih : ∀ t ∈ ks, ∀ u, SameAt t u) {P Q : Nat → Prop} (s1 s2 : SV) {xs ys : List TV} (w : World) (h1 : RepL w P s1 ks xs) (h2 : RepL w Q s2 us ys) (hw1 : wL ks ≤ 1048576) (hw2 : wL us ≤ 1048576) :
    Calls Try.prog 29 #[s1.val, s2.val, .func (.func 12) #[] #[]] w fun e w' => e = .returned (.bool (smL ks us)) ∧ Below w.heap.size w w' := by
  obtain ⟨A, n, c⟩ := s1
  obtain ⟨A2, m, c2⟩ := s2
  unfold SV.val
  simp only
  have hl1 := wL_len ks
  have hl2 := wL_len us
  have n1 : n = ks.length := h1.n
  have n2 : m = us.length := h2.n
  obtain ⟨b, hb⟩ : ∃ b, b = smL ks us := ⟨_, rfl⟩
  rw [← hb]
  have hent : ∀ args w, (callFunc 12 args).run Try.prog w = .ok (.enter 12 args) w := enters_of Try.func12 (by kernel_rfl) rfl
  by_cases hnm : n = m
  · subst hnm
    have hn : n ≤ 1048576 := by omega
    have HZ := hid (show ∀ i (h1 : i < ks.length) (h2 : i < us.length), i < 0 → smT ks[i] us[i] = true from fun i _ _ h => absurd h (by omega))
    have H1 := hid h1
    have H2 := hid h2
    have HN := hid (And.intro n1 n2)
    have HBb := hid hb
    clear hb h1 h2 n1 n2 hl1 hl2
    go_enter Try.func29, Try.ntmps29
    go_wp2_with fail
    go_loopw [17] (fun i wr => ∃ q : Nat, q ≤ n ∧ i = .int .i64 q ∧ Hid (∀ i (h1 : i < ks.length) (h2 : i < us.length), i < q → smT ks[i] us[i] = true) ∧ Hid (Below w.heap.size w wr)) (fun i _ => n - (intOf i).toNat)
    case atStart => exact ⟨0, by omega, rfl, HZ, hid (Below.refl _ _)⟩
    case round =>
      clear HZ
      obtain ⟨q, hq, rfl, HZ, HB⟩ := hrel
      by_cases hlt : q < n
      · have hlt' : (q : Int) < (n : Int) := by omega
        have hk1 : q < ks.length := by rw [← HN.out.1]; exact hlt
        have hk2 : q < us.length := by rw [← HN.out.2]; exact hlt
        have hq1 : q < xs.length := by rw [H1.out.l]; exact hk1
        have hq2 : q < ys.length := by rw [H2.out.l]; exact hk2
        obtain ⟨b1, o1, hA, hbl, _, g1⟩ := Rw.range H1.out.r hq1
        obtain ⟨b2, o2, hA2, hbl2, _, g2⟩ := Rw.range H2.out.r hq2
        have hA' : A = some ⟨b1, o1, none⟩ := hA
        have hA2' : A2 = some ⟨b2, o2, none⟩ := hA2
        have HR1 := hid (H1.out.each q hq1 hk1)
        have HR2 := hid (H2.out.each q hq2 hk2)
        have HI := hid (ih ks[q] (List.getElem_mem _) us[q])
        have HF := hid (fun (h : smT ks[q] us[q] = false) => smL_false hk1 hk2 h)
        have HZ2 := hid (fun (h : smT ks[q] us[q] = true) i (h1 : i < ks.length) (h2 : i < us.length) (hij : i < q + 1) => (by
          by_cases e : i = q
          · subst e; exact h
          · exact HZ.out i h1 h2 (by omega) : smT ks[i] us[i] = true))
        have HW := hid (And.intro (Nat.le_trans (wL_get hk1) hw1) (Nat.le_trans (wL_get hk2) hw2))
        obtain ⟨f, hf⟩ : ∃ f, f = xs[q] := ⟨_, rfl⟩
        obtain ⟨g, hg⟩ : ∃ g, g = ys[q] := ⟨_, rfl⟩
        rw [← hf] at g1 HR1
        rw [← hg] at g2 HR2
        have g1' := range_keep g1 (HB.out.block b1 hbl)
        have hbx := row_new wr 26 #[.int .u64 0, .bool false, .slice none 0 0, .slice none 0 0] f.cells.toArray
        have hX4 : Blk ((wr.alloc (.cells #[.int .u64 0, .bool false, .slice none 0 0, .slice none 0 0] 26)).setRow wr.heap.size f.cells.toArray) wr.heap.size 26 f.cells := setRow_heap _ _ _ _ _ (0, 0) (heap_alloc_new wr _)
        obtain ⟨W4, hW4⟩ : ∃ W4, W4 = (wr.alloc (.cells #[.int .u64 0, .bool false, .slice none 0 0, .slice none 0 0] 26)).setRow wr.heap.size f.cells.toArray := ⟨_, rfl⟩
        rw [← hW4] at hbx hX4
        have hB4 := HB.out.trans (hbx.mono HB.out.size)
        have g2' := range_keep g2 (hB4.block b2 hbl2)
        have hbx5 := row_new W4 26 #[.int .u64 0, .bool false, .slice none 0 0, .slice none 0 0] g.cells.toArray
        have hX5 : Blk ((W4.alloc (.cells #[.int .u64 0, .bool false, .slice none 0 0, .slice none 0 0] 26)).setRow W4.heap.size g.cells.toArray) W4.heap.size 26 g.cells := setRow_heap _ _ _ _ _ (0, 0) (heap_alloc_new W4 _)
        obtain ⟨W5, hW5⟩ : ∃ W5, W5 = (W4.alloc (.cells #[.int .u64 0, .bool false, .slice none 0 0, .slice none 0 0] 26)).setRow W4.heap.size g.cells.toArray := ⟨_, rfl⟩
        rw [← hW5] at hbx5 hX5
        have hB5 := hB4.trans (hbx5.mono hB4.size)
        have hX45 := hX4.keep hbx5
        obtain ⟨e0, e1, e2, e3⟩ := tv_range g1'
        obtain ⟨k0, k1, k2, k3⟩ := tv_range g2'
        have hx4 : BoxT W5 wr.heap.size f := hX45
        have hx5 : BoxT W5 W4.heap.size g := hX5
        obtain ⟨z0, z1, z2, z3⟩ := hx4.four
        obtain ⟨y0, y1, y2, y3⟩ := hx5.four
        have HAl := hid (show Calls Try.prog 12 #[.agg #[.int .u64 (f.num : Int), .bool f.bl, .slice f.D.A f.D.n f.D.c, .slice f.K.A f.K.n f.K.c], .agg #[.int .u64 (g.num : Int), .bool g.bl, .slice g.D.A g.D.n g.D.c, .slice g.K.A g.K.n g.K.c]] W5 _ from HI.out f g W5 P Q (HR1.out.mono (fun b _ hl => hB5.block b hl) hB5.size (fun _ h _ => h)) (HR2.out.mono (fun b _ hl => hB5.block b hl) hB5.size (fun _ h _ => h)) HW.out.1 HW.out.2)
        have HB5 := hid hB5
        have HW4 := hid hW4
        have HW5 := hid hW5
        have HSf := hid (tv_size f)
        have HSg := hid (tv_size g)
        have HOf := hid (tv_one f)
        have HOg := hid (tv_one g)
        generalize smT ks[q] us[q] = r at HAl HF HZ2
        clear hbx hX4 hB4 hbx5 hX5 hB5 hX45 hW4 hW5 g1 g2 g1' g2' hbl hbl2 hA hA2 hf hg HZ HR1 HR2 HI HW hx4 hx5 hk1 hk2 hq1 hq2
        rw [hA', hA2']
        go_wp2_with (first
          | ((with_reducible refine wpList_store_row rfl 26 _ _ rfl wr.heap.size f.cells.toArray ?_ ?_ 26 #[.int .u64 0, .bool false, .slice none 0 0, .slice none 0 0] (heap_alloc_new wr _) HSf.out ?_ HOf.out ?_); exact rfl; exact rfl; exact rfl; rw [← HW4.out])
          | ((with_reducible refine wpList_store_row rfl 26 _ _ rfl W4.heap.size g.cells.toArray ?_ ?_ 26 #[.int .u64 0, .bool false, .slice none 0 0, .slice none 0 0] (heap_alloc_new W4 _) HSg.out ?_ HOg.out ?_); exact rfl; exact rfl; exact rfl; rw [← HW5.out])
          | (go_at_call 12; (with_reducible refine HAl.out.mono ?_); rintro e w6 ⟨rfl, hb6⟩; have HB6 := hid (HB5.out.trans (hb6.mono HB5.out.size)); clear hb6 z0 z1 z2 z3 y0 y1 y2 y3 e0 e1 e2 e3 k0 k1 k2 k3))
        all_goals
          rename_i hne
          first
            | (have hfg : r = false := by simpa using hne
               go_ret
               exact ⟨by rw [HBb.out, HF.out hfg]; rfl, HB6.out⟩)
            | (have hfg : r = true := by simpa using hne
               exact ⟨⟨q + 1, by omega, by go_num, hid (HZ2.out hfg), HB6⟩, by simp [intOf]; omega⟩)
      · obtain rfl : q = n := by omega
        have HZ5 := hid (show b = true by rw [HBb.out]; exact smL_true (HN.out.1.symm.trans HN.out.2) (fun i h1 h2 => HZ.out i h1 h2 (by rw [HN.out.1]; exact h1)))
        go_wp2
        go_ret
        exact ⟨by rw [HZ5.out]; rfl, HB.out⟩
  · have HZ := hid (show b = false by rw [hb]; exact smL_len (by omega))
    have hnm' : ¬ (n : Int) = (m : Int) := by omega
    clear hb h1 h2 n1 n2
    go_enter Try.func29, Try.ntmps29
    go_wp2
    exact bodyPost_ret (results_tmp rfl _ _ _) rfl ⟨by rw [HZ.out]; rfl, Below.refl _ _⟩

set_option maxRecDepth 100000 in
set_option maxHeartbeats 4000000 in
theorem same_any : ∀ t u, SameAt t u := by
  refine TT.ind fun nn bb d ks ih => ?_
  intro u v x w P Q hR hS hw hw2
  obtain ⟨mm, cc, e, us⟩ := u
  rw [wT] at hw hw2
  obtain ⟨rfl, rfl, _, hdn, hD, hkn, vs, hvl, hK, hr⟩ := hR.inv
  obtain ⟨rfl, rfl, _, hdn', hD', hkn', xs, hxl, hK', hr'⟩ := hS.inv
  obtain ⟨r, hr0⟩ : ∃ r, r = smT (.nd v.num v.bl d ks) (.nd x.num x.bl e us) := ⟨_, rfl⟩
  rw [← hr0]
  rw [smT] at hr0
  obtain ⟨hb1, h1⟩ := box_new w v
  obtain ⟨hb2, h2⟩ := box_new (w.alloc (.cells v.cells.toArray 26)) x
  have hb := hb1.trans (hb2.mono hb1.size)
  have h1 : BoxT ((w.alloc (.cells v.cells.toArray 26)).alloc (.cells x.cells.toArray 26)) w.heap.size v := Blk.keep h1 hb2
  rw [World.size_alloc] at h2
  have HC := hid (fun W (hW : Below w.heap.size w W) => eqT_any ih v.K x.K W (RepL.keep ⟨hkn, hvl, hK, hr⟩ hW) (RepL.keep ⟨hkn', hxl, hK', hr'⟩ hW) (by omega) (by omega))
  have HE := hid (fun W (hW : Below w.heap.size w W) => beq_any (w := W) (c := v.D.c) (k := x.D.c) ((hD.keep hW).rdb hdn) ((hD'.keep hW).rdb hdn'))
  unfold SV.val at HC
  generalize smL ks us = q at *
  generalize (d == e) = p at *
  obtain ⟨x0, x1, x2, x3⟩ := h1.four
  obtain ⟨y0, y1, y2, y3⟩ := h2.four
  have HB := hid hb
  have H1 := hid h1
  have H2 := hid h2
  have hvc : v.cells.toArray = #[.int .u64 (v.num : Int), .bool v.bl, .slice v.D.A v.D.n v.D.c, .slice v.K.A v.K.n v.K.c] := rfl
  have hxc : x.cells.toArray = #[.int .u64 (x.num : Int), .bool x.bl, .slice x.D.A x.D.n x.D.c, .slice x.K.A x.K.n x.K.c] := rfl
  rw [hvc, hxc] at HB H1 H2 x0 x1 x2 x3 y0 y1 y2 y3
  clear ih hK hK' hr hr' hR hS h1 h2 hb hb1 hb2 hD hD' hdn hdn' hkn hkn' hw hw2 hvl hxl hvc hxc
  unfold TV.val
  obtain ⟨n1, b1, ⟨DA1, Dn1, Dc1⟩, ⟨KA1, Kn1, Kc1⟩⟩ := v
  obtain ⟨n2, b2, ⟨DA2, Dn2, Dc2⟩, ⟨KA2, Kn2, Kc2⟩⟩ := x
  simp only at *
  go_enter Try.func12, Try.ntmps12
  go_upto_region 1 with (fail)
  generalize (w.alloc (.cells #[.int .u64 (n1 : Int), .bool b1, .slice DA1 Dn1 Dc1, .slice KA1 Kn1 Kc1] 26)).alloc (.cells #[.int .u64 (n2 : Int), .bool b2, .slice DA2 Dn2 Dc2, .slice KA2 Kn2 Kc2] 26) = w1 at *
  by_cases hn : n1 = n2
  · subst hn
    by_cases hb : b1 = b2
    · subst hb
      have hbb : (b1 == b1) = true := by simp
      have HE1 := hid (HE.out w1 HB.out)
      have HC1 := hid (HC.out w1 HB.out)
      clear HE HC
      rw [hbb] at hr0
      simp only [decide_true, Bool.true_and] at hr0
      cases p
      · rw [Bool.false_and] at hr0
        go_wp2_with (go_at_call 28; (with_reducible refine HE1.out.mono ?_); rintro e w2 ⟨rfl, rfl⟩)
        go_ret
        exact ⟨by first | rfl | (rw [hr0]; rfl), HB.out⟩
      · rw [Bool.true_and] at hr0
        go_wp2_with (first
          | (go_at_call 28; (with_reducible refine HE1.out.mono ?_); rintro e w2 ⟨rfl, rfl⟩)
          | (go_at_call 29; (with_reducible refine HC1.out.mono ?_); rintro e w3 ⟨rfl, hb3⟩; have HB3 := hid (HB.out.trans (hb3.mono HB.out.size)); clear hb3 x0 x1 x2 x3 y0 y1 y2 y3))
        go_ret
        exact ⟨by first | rfl | (rw [hr0]; rfl), HB3.out⟩
    · have hbb : (b1 == b2) = false := by simpa using hb
      rw [hbb] at hr0
      simp only [Bool.false_and, Bool.and_false] at hr0
      go_wp2_with fail
      go_ret
      exact ⟨by first | rfl | (rw [hr0]; rfl), HB.out⟩
  · have hnn : ¬ (n1 : Int) = (n2 : Int) := by omega
    rw [decide_eq_false hn, Bool.false_and] at hr0
    go_wp2_with fail
    go_ret
    exact ⟨by first | rfl | (rw [hr0]; rfl), HB.out⟩
end Go.Proofs.Ytdhipmdapodpkaa
