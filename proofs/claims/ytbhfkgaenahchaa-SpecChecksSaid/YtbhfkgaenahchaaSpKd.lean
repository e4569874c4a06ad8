/- spec: the laws' own list of a type's parts. -/
import Derived.Test.YtbhfkgaenahchaaSpLa
namespace Go.Proofs.Ytbhfkgaenahchaa
set_option linter.unusedSimpArgs false
set_option linter.unusedVariables false
open Go.RowKit

set_option maxRecDepth 10000 in
theorem wpList_app_ints {ops : Array Oper} {rest : List Oper} {o : Oper} {a : Act} {w : World} {Q : Exit → Act → World → Prop} (hgd : o.guard = none) (s x : Operand)
    (ho : o.op = .call { callee := .builtin .append, args := #[s, x], argTypes := #[33, 33] })
    (base : Nat) (v : Value) (n : Nat) (xs : List Value) (hs : a.eval s = v) (hown : w.ownsRow base 3 1 v n xs) (hv : v ≠ .slice none 0 0) {P : Nat → Prop} (S : SV) (ls : List Int) (hx : a.eval x = S.val) (hr : Rw w P S (intC ls)) (hn : S.n = ls.length) (hb : n + ls.length ≤ 1048576) (hbase : base ≤ w.heap.size)
    (h : ∀ A m c w', m = n + ls.length → w'.ownsRow base 3 1 (.slice A m c) (n + ls.length) (xs ++ intC ls) → w.grownBy w' v.ownBlock → Value.slice A m c ≠ .slice none 0 0 → wpList Try.prog ops Q rest (a.put o.dst (.slice A m c)) w') : wpList Try.prog ops Q (o :: rest) a w := by
  obtain ⟨i0, hi0, hz0, hz1, hz2⟩ := info_parts info_int
  obtain ⟨A, m, c⟩ := S
  simp only at hn
  subst hn
  unfold SV.val at hx
  simp only at hx
  cases A with
  | none =>
    have e : ls = [] := by
      have := hr.1 rfl
      cases ls with
      | nil => rfl
      | cons _ _ => simp [intC] at this
    subst e
    obtain ⟨A, cc, rfl⟩ := owns_shape hown
    have hle : n ≤ cc := by
      rcases hown.2 with ⟨e, _⟩ | ⟨g, cap, cur, e, _, _, hle, _⟩
      · exact absurd e hv
      · injection e with _ _ e3; omega
    refine wpList_plain hgd fun K hK => ?_
    unfold Oper.wp execOp
    have hr2 : (Builtin.append_ #[33, 33] o.type #[.slice A n cc, .slice none 0 c]).run Try.prog w = .ok (.slice A n cc) w := by
      cases A <;> simp [Builtin.append_, run_underlying Try.underlying33, sizeOf, typeInfo, hi0, hle, storeCells, Builtin.lenOf, Builtin.firstCells]
    simp only [ho, resolve, invoke, builtin, Sem.run_bind, Sem.run_pure, Result.andThen_ok, List.map_toArray, List.map_cons, List.map_nil, hs, hx, List.length_nil, hr2]
    exact hK _ _ (h _ _ _ _ rfl (by simpa [intC] using hown) ⟨rfl, rfl, rfl, Nat.le_refl _, fun _ _ _ => rfl⟩ hv)
  | some ad =>
    refine wpList_append_own_at _ hgd s x 33 ho base 3 i0 (.int .i64 0) 1 8 Try.underlying33 hi0 hz0 hz1 hz2 rfl (by decide) v n xs hs hown ad ls.length c (intC ls) hx (by rw [intC_len, Nat.mul_one]) ?_ (ones_int ls) (by unfold maxLen; omega) (by omega) hbase ?_
    · intro j u hu
      have hj : j < (intC ls).length := (List.getElem?_eq_some_iff.1 hu).1
      obtain ⟨ad2, e2, h2⟩ := hr.src (by omega)
      have e2 : some ad = some ad2 := e2
      injection e2 with e2
      subst e2
      exact h2 j u hu
    · intro v' w' h1 h2 h3 _
      obtain ⟨A7, c7, rfl⟩ := owns_shape h1
      exact h A7 _ c7 w' rfl h1 h2 (fun e => hv (h3.1 e).1)
theorem rw_one (w : World) (p : Int) : Rw (w.alloc (.cells #[.int .i64 p] 3)) (fun _ => True) ⟨some ⟨w.heap.size, 0, none⟩, 1, 1⟩ (intC [p]) := by
  have h : Blk (w.alloc (.cells #[.int .i64 p] 3)) w.heap.size 3 [.int .i64 p] := heap_alloc_new w _
  exact ⟨(fun e => nomatch e), fun _ => ⟨w.heap.size, 0, rfl, h.lt, trivial, fun j hj => by rw [Nat.zero_add, Blk.at h]; exact List.getElem?_eq_getElem hj⟩⟩
/-- What the list holds so far. -/
structure LkS (w : World) (cs : Array Value) (x : NV) (xs : List Int) (v : Value) (W : World) : Prop where
  bel : Below w.heap.size w W
  bx : NBox W w.heap.size cs x
  own : W.ownsRow w.heap.size 3 1 v xs.length (intC xs)
  nn : v ≠ .slice none 0 0
theorem LkS.keep {w W W' : World} {cs : Array Value} {x : NV} {xs : List Int} {v : Value} (h : LkS w cs x xs v W) (hb : Below W.heap.size W W') : LkS w cs x xs v W' :=
  ⟨h.bel.trans (hb.mono h.bel.size), h.bx.keep hb, owns_keep h.own (fun b _ hl => hb.block b hl), h.nn⟩
theorem LkS.app {w W W' : World} {cs : Array Value} {x : NV} {xs ys : List Int} {v v' : Value} (h : LkS w cs x xs v W) (hown : W'.ownsRow w.heap.size 3 1 v' (xs.length + ys.length) (intC xs ++ intC ys)) (hg : W.grownBy W' v.ownBlock) (hn : v' ≠ .slice none 0 0) : LkS w cs x (xs ++ ys) v' W' := by
  have hc := Chg.of_grown hg
  refine ⟨Chg.below h.bel hc h.bel.size (fun j hj => (owns_block h.own j hj).1), ?_, ?_, hn⟩
  · have hb : Blk W w.heap.size 38 cs.toList := h.bx.1
    exact ⟨hb.chg hc (own_ne h.own hb (by decide)), h.bx.2⟩
  · rw [List.length_append]
    have e : intC (xs ++ ys) = intC xs ++ intC ys := by simp [intC]
    rw [e]
    exact hown
set_option maxRecDepth 100000 in
set_option maxHeartbeats 4000000 in
theorem lkids_any {P : Nat → Prop} (x : NV) (w : World) (hO : NodeOk w P x) (hf : x.K.n ≤ 1000 ∧ x.F.n ≤ 1000 ∧ x.C.n ≤ 1000) :
    Calls Try.prog 10 #[x.val] w fun e w' => ∃ A c, e = .returned (.slice A x.t.parts.length c) ∧ Below w.heap.size w w' ∧ w'.ownsRow w.heap.size 3 1 (.slice A x.t.parts.length c) x.t.parts.length (intC x.t.parts) := by
  obtain ⟨cs, hv, hbx⟩ := nbox x
  obtain ⟨R, hR⟩ : ∃ R : Ending → World → Prop, R = fun e w' => ∃ A c, e = .returned (.slice A x.t.parts.length c) ∧ Below w.heap.size w w' ∧ w'.ownsRow w.heap.size 3 1 (.slice A x.t.parts.length c) x.t.parts.length (intC x.t.parts) := ⟨_, rfl⟩
  rw [hv, ← hR]
  have HR := hid hR
  obtain ⟨hA, hN⟩ := hbx w
  have h1 := (Below.refl (w.alloc (.cells cs 38)).heap.size _).alloc (Nat.le_refl _) (.cells #[] 3)
  have hown : ((w.alloc (.cells cs 38)).alloc (.cells #[] 3)).ownsRow w.heap.size 3 1 (.slice (some ⟨(w.alloc (.cells cs 38)).heap.size, 0, none⟩) 0 0) 0 (intC []) :=
    ⟨rfl, .inr ⟨_, 0, #[], rfl, hA.size, heap_alloc_new _ _, Nat.le_refl _, Nat.zero_le _, rfl, rfl⟩⟩
  have HS0 := hid (show LkS w cs x [] _ _ from ⟨hA.trans (h1.mono hA.size), hN.keep h1, hown, fun e => by injection e with e; cases e⟩)
  obtain ⟨KA, hKA⟩ : ∃ A, A = x.K.A := ⟨_, rfl⟩
  obtain ⟨FA, hFA⟩ : ∃ A, A = x.F.A := ⟨_, rfl⟩
  obtain ⟨CA, hCA⟩ : ∃ A, A = x.C.A := ⟨_, rfl⟩
  obtain ⟨Fn, hFn⟩ : ∃ n, n = x.F.n := ⟨_, rfl⟩
  obtain ⟨Cn, hCn⟩ : ∃ n, n = x.C.n := ⟨_, rfl⟩
  have x11 := HS0.out.bx.cells.2.2.2.2.2.2.2.2.2.2.2.1
  have HO := hid hO
  have HXf := hid hFA
  have HXc := hid hCA
  have HNf := hid (hFn.trans hO.fn)
  have HNc := hid (hCn.trans hO.cn)
  have HF := hid (show x.t.ks.length ≤ 1000 ∧ x.t.fs.length ≤ 1000 ∧ x.t.cs.length ≤ 1000 by rw [← hO.kn, ← hO.fn, ← hO.cn]; exact hf)
  have HFC := hid (And.intro hFA (And.intro hCA (And.intro hFn hCn)))
  have HKn := hid hO.kn
  have hFb : Fn ≤ 1000 := by rw [hFn]; exact hf.2.1
  have hCb : Cn ≤ 1000 := by rw [hCn]; exact hf.2.2
  clear hR hA hN hO hf hbx h1 hown hKA hFA hCA hFn hCn
  go_enter Try.func10, Try.ntmps10
  go_upto_region 1 with (fail)
  generalize w.alloc (.cells cs 38) = w1 at *
  go_upto_region 2 with (first
    | ((with_reducible refine wpList_app_ints rfl _ _ rfl w.heap.size _ _ _ ?_ HS0.out.own HS0.out.nn x.K x.t.ks ?_ (HO.out.k.keep HS0.out.bel) HKn.out ?_ HS0.out.bel.size ?_); exact rfl; exact rfl; (have := HF.out; simp only [List.length_nil]; omega); (intro A7 m7 c7 w7 hm7 hown7 hgrow7 hnn7; have HS7 := hid (HS0.out.app hown7 hgrow7 hnn7); rw [List.nil_append] at HS7; clear hm7 hown7 hgrow7 hnn7 HS0 x11)))
  obtain ⟨xs0, hxs0⟩ : ∃ xs, xs = x.t.ks := ⟨_, rfl⟩
  have x13 := HS7.out.bx.cells.2.2.2.2.2.2.2.2.2.2.2.2.2.1
  rw [← hxs0] at HS7
  rw [← HFC.out.1, ← HFC.out.2.2.1] at x13
  have HL0 := hid (show xs0.length ≤ 1000 by rw [hxs0]; exact HF.out.1)
  have HXs := hid hxs0
  have HF0 := hid (show LkS w cs x (xs0 ++ (x.t.fs.take 0).map FT.ty) _ w7 by rw [List.take_zero, List.map_nil, List.append_nil]; exact HS7.out)
  clear hxs0 HS7
  go_wp2_with fail
  go_loopw [3, 15] (fun s i wr => ∃ (j : Nat) (A : Option Addr) (m c : Nat), j ≤ Fn ∧ i = .int .i64 j ∧ s = .slice A m c ∧ Hid (LkS w cs x (xs0 ++ (x.t.fs.take j).map FT.ty) (.slice A m c) wr)) (fun _ i _ => Fn - (intOf i).toNat)
  case atStart => exact ⟨0, _, _, _, by omega, rfl, rfl, HF0⟩
  case round =>
    clear HF0 x13
    obtain ⟨j, A0, m0, c0', hj, rfl, rfl, HS⟩ := hrel
    by_cases hlt : j < Fn
    · have hlt' : (j : Int) < (Fn : Int) := by omega
      have hj1 : j < x.t.fs.length := by rw [← HNf.out]; exact hlt
      obtain ⟨b1, o1, hA, hbl, _, c0, c1, c2, c3, c4⟩ := field_cell (HO.out.f.keep HS.out.bel) hj1
      obtain ⟨f, hf⟩ : ∃ f, f = x.t.fs[j] := ⟨_, rfl⟩
      rw [← hf] at c0 c1 c2 c3 c4
      have hA' : FA = some ⟨b1, o1, none⟩ := by rw [HXf.out]; exact hA
      have hbx := row_new wr 53 #[.string ⟨#[]⟩, .int .i64 0, .int .i64 0, .string ⟨#[]⟩, .string ⟨#[]⟩] f.cells.toArray
      have hX4 : Blk ((wr.alloc (.cells #[.string ⟨#[]⟩, .int .i64 0, .int .i64 0, .string ⟨#[]⟩, .string ⟨#[]⟩] 53)).setRow wr.heap.size f.cells.toArray) wr.heap.size 53 f.cells := setRow_heap _ _ _ _ _ (0, 0) (heap_alloc_new wr _)
      have HS4 := hid (HS.out.keep hbx)
      have hW4 : ((wr.alloc (.cells #[.string ⟨#[]⟩, .int .i64 0, .int .i64 0, .string ⟨#[]⟩, .string ⟨#[]⟩] 53)).setRow wr.heap.size f.cells.toArray) = ((wr.alloc (.cells #[.string ⟨#[]⟩, .int .i64 0, .int .i64 0, .string ⟨#[]⟩, .string ⟨#[]⟩] 53)).setRow wr.heap.size f.cells.toArray) := rfl
      obtain ⟨W4, hW4⟩ : ∃ W4, W4 = ((wr.alloc (.cells #[.string ⟨#[]⟩, .int .i64 0, .int .i64 0, .string ⟨#[]⟩, .string ⟨#[]⟩] 53)).setRow wr.heap.size f.cells.toArray) := ⟨_, rfl⟩
      rw [← hW4] at hX4 HS4
      have z1 := Blk.at hX4 1
      simp only [FT.cells, List.getElem?_cons_zero, List.getElem?_cons_succ] at z1
      have h5 := (Below.refl W4.heap.size W4).alloc (Nat.le_refl _) (.cells #[.int .i64 f.ty] 3)
      have HS5 := hid (HS4.out.keep h5)
      have HR5 := hid (show Rw (W4.alloc (.cells #[.int .i64 f.ty] 3)) (fun _ => True) ⟨some ⟨W4.heap.size, 0, none⟩, 1, 1⟩ (intC [f.ty]) from rw_one W4 f.ty)
      have HW4 := hid hW4
      have HSf := hid (show (Try.prog.info? 53).map (·.size) = some f.cells.toArray.size from by rw [show f.cells.toArray.size = 5 from rfl]; kernel_rfl)
      have HOf := hid (show f.cells.toArray.all (·.oneCell') = true by simp [FT.cells, Value.oneCell'])
      have HFj := hid (show x.t.fs.take (j + 1) = x.t.fs.take j ++ [f] by rw [hf]; exact List.take_succ_eq_append_getElem hj1)
      have HLen := hid (show (xs0 ++ (x.t.fs.take j).map FT.ty).length ≤ 5000 by rw [List.length_append, List.length_map, List.length_take]; have := HF.out; have := HL0.out; omega)
      clear hbx hX4 hbl hA hf hj1 hW4 h5 HS
      rw [hA']
      go_wp2_with (first
        | ((with_reducible refine wpList_store_row rfl 53 _ _ rfl wr.heap.size f.cells.toArray ?_ ?_ 53 #[.string ⟨#[]⟩, .int .i64 0, .int .i64 0, .string ⟨#[]⟩, .string ⟨#[]⟩] (heap_alloc_new wr _) HSf.out ?_ HOf.out ?_); exact rfl; exact rfl; exact rfl; rw [← HW4.out])
        | ((with_reducible refine wpList_app_ints rfl _ _ rfl w.heap.size _ _ _ ?_ HS5.out.own HS5.out.nn ⟨some ⟨W4.heap.size, 0, none⟩, 1, 1⟩ [f.ty] ?_ HR5.out rfl ?_ HS5.out.bel.size ?_); exact rfl; exact rfl; (have := HLen.out; simp only [List.length_cons, List.length_nil]; omega); (intro A7 m7 c7 w7 hm7 hown7 hgrow7 hnn7; have HS7 := hid (HS5.out.app hown7 hgrow7 hnn7); clear hm7 hown7 hgrow7 hnn7)))
      all_goals exact ⟨⟨j + 1, A7, _, c7, by omega, by go_num, rfl, hid (by rw [HFj.out, List.map_append, ← List.append_assoc]; exact HS7.out)⟩, by simp [intOf]; omega⟩
    · obtain rfl : j = Fn := by omega
      have hxl := HNf.out
      have HX1 := hid (show LkS w cs x (xs0 ++ x.t.fs.map FT.ty) (.slice A0 m0 c0') wr by have := HS.out; rwa [hxl, List.take_length] at this)
      clear hxl HS
      obtain ⟨xs1, hxs1⟩ : ∃ xs, xs = xs0 ++ x.t.fs.map FT.ty := ⟨_, rfl⟩
      rw [← hxs1] at HX1
      have HL1 := hid (show xs1.length ≤ 2000 by rw [hxs1, List.length_append, List.length_map]; have := HF.out; have := HL0.out; omega)
      have HXs1 := hid hxs1
      have x16 := HX1.out.bx.cells.2.2.2.2.2.2.2.2.2.2.2.2.2.2.2.2.1
      rw [← HFC.out.2.1, ← HFC.out.2.2.2] at x16
      have HF1 := hid (show LkS w cs x (xs1 ++ (x.t.cs.take 0).map CT.ty) _ wr by rw [List.take_zero, List.map_nil, List.append_nil]; exact HX1.out)
      clear hxs1 HX1
      go_wp2_with fail
      go_loopw [3, 28] (fun s i wr => ∃ (j : Nat) (A : Option Addr) (m c : Nat), j ≤ Cn ∧ i = .int .i64 j ∧ s = .slice A m c ∧ Hid (LkS w cs x (xs1 ++ (x.t.cs.take j).map CT.ty) (.slice A m c) wr)) (fun _ i _ => Cn - (intOf i).toNat)
      case atStart => exact ⟨0, _, _, _, by omega, rfl, rfl, HF1⟩
      case round =>
        clear HF1 x16
        obtain ⟨j, A0, m0, c0', hj, rfl, rfl, HS⟩ := hrel
        by_cases hlt : j < Cn
        · have hlt' : (j : Int) < (Cn : Int) := by omega
          have hj1 : j < x.t.cs.length := by rw [← HNc.out]; exact hlt
          obtain ⟨b1, o1, hA, hbl, _, c0, c1⟩ := case_cell (HO.out.c.keep HS.out.bel) hj1
          obtain ⟨f, hf⟩ : ∃ f, f = x.t.cs[j] := ⟨_, rfl⟩
          rw [← hf] at c0 c1
          have hA' : CA = some ⟨b1, o1, none⟩ := by rw [HXc.out]; exact hA
          have hbx := row_new wr 65 #[.int .u64 0, .int .i64 0] f.cells.toArray
          have hX4 : Blk ((wr.alloc (.cells #[.int .u64 0, .int .i64 0] 65)).setRow wr.heap.size f.cells.toArray) wr.heap.size 65 f.cells := setRow_heap _ _ _ _ _ (0, 0) (heap_alloc_new wr _)
          have HS4 := hid (HS.out.keep hbx)
          have hW4 : ((wr.alloc (.cells #[.int .u64 0, .int .i64 0] 65)).setRow wr.heap.size f.cells.toArray) = ((wr.alloc (.cells #[.int .u64 0, .int .i64 0] 65)).setRow wr.heap.size f.cells.toArray) := rfl
          obtain ⟨W4, hW4⟩ : ∃ W4, W4 = ((wr.alloc (.cells #[.int .u64 0, .int .i64 0] 65)).setRow wr.heap.size f.cells.toArray) := ⟨_, rfl⟩
          rw [← hW4] at hX4 HS4
          have z1 := Blk.at hX4 1
          simp only [CT.cells, List.getElem?_cons_zero, List.getElem?_cons_succ] at z1
          have h5 := (Below.refl W4.heap.size W4).alloc (Nat.le_refl _) (.cells #[.int .i64 f.ty] 3)
          have HS5 := hid (HS4.out.keep h5)
          have HR5 := hid (show Rw (W4.alloc (.cells #[.int .i64 f.ty] 3)) (fun _ => True) ⟨some ⟨W4.heap.size, 0, none⟩, 1, 1⟩ (intC [f.ty]) from rw_one W4 f.ty)
          have HW4 := hid hW4
          have HSf := hid (show (Try.prog.info? 65).map (·.size) = some f.cells.toArray.size from by rw [show f.cells.toArray.size = 2 from rfl]; kernel_rfl)
          have HOf := hid (show f.cells.toArray.all (·.oneCell') = true by simp [CT.cells, Value.oneCell'])
          have HFj := hid (show x.t.cs.take (j + 1) = x.t.cs.take j ++ [f] by rw [hf]; exact List.take_succ_eq_append_getElem hj1)
          have HLen := hid (show (xs1 ++ (x.t.cs.take j).map CT.ty).length ≤ 5000 by rw [List.length_append, List.length_map, List.length_take]; have := HF.out; have := HL1.out; omega)
          clear hbx hX4 hbl hA hf hj1 hW4 h5 HS
          rw [hA']
          go_wp2_with (first
            | ((with_reducible refine wpList_store_row rfl 65 _ _ rfl wr.heap.size f.cells.toArray ?_ ?_ 65 #[.int .u64 0, .int .i64 0] (heap_alloc_new wr _) HSf.out ?_ HOf.out ?_); exact rfl; exact rfl; exact rfl; rw [← HW4.out])
            | ((with_reducible refine wpList_app_ints rfl _ _ rfl w.heap.size _ _ _ ?_ HS5.out.own HS5.out.nn ⟨some ⟨W4.heap.size, 0, none⟩, 1, 1⟩ [f.ty] ?_ HR5.out rfl ?_ HS5.out.bel.size ?_); exact rfl; exact rfl; (have := HLen.out; simp only [List.length_cons, List.length_nil]; omega); (intro A7 m7 c7 w7 hm7 hown7 hgrow7 hnn7; have HS7 := hid (HS5.out.app hown7 hgrow7 hnn7); clear hm7 hown7 hgrow7 hnn7)))
          all_goals exact ⟨⟨j + 1, A7, _, c7, by omega, by go_num, rfl, hid (by rw [HFj.out, List.map_append, ← List.append_assoc]; exact HS7.out)⟩, by simp [intOf]; omega⟩
        · obtain rfl : j = Cn := by omega
          have hxl := HNc.out
          have HX2 := hid (show LkS w cs x (xs1 ++ x.t.cs.map CT.ty) (.slice A0 m0 c0') wr by have := HS.out; rwa [hxl, List.take_length] at this)
          clear hxl HS
          obtain ⟨xs2, hxs2⟩ : ∃ xs, xs = xs1 ++ x.t.cs.map CT.ty := ⟨_, rfl⟩
          rw [← hxs2] at HX2
          have HL2 := hid (show xs2.length ≤ 3000 by rw [hxs2, List.length_append, List.length_map]; have := HF.out; have := HL1.out; omega)
          have HPs := hid (show x.t.parts = xs2 ++ (if x.t.k = 9 ∧ 0 ≤ x.t.el then [x.t.el] else []) by rw [hxs2, HXs1.out, HXs.out]; rfl)
          clear hxs2
          have x0 := HX2.out.bx.cells.1
          have x17 := HX2.out.bx.cells.2.2.2.2.2.2.2.2.2.2.2.2.2.2.2.2.2
          obtain ⟨k, hk⟩ : ∃ k, k = x.t.k := ⟨_, rfl⟩
          obtain ⟨el, hel⟩ : ∃ el, el = x.t.el := ⟨_, rfl⟩
          rw [← hk] at x0 HPs
          rw [← hel] at x17 HPs
          clear hk hel
          by_cases h9 : k = 9 ∧ 0 ≤ el
          · obtain ⟨rfl, he⟩ := h9
            have he' : (0 : Int) ≤ el := he
            have h5 := (Below.refl wr.heap.size wr).alloc (Nat.le_refl _) (.cells #[.int .i64 el] 3)
            have HS5 := hid (HX2.out.keep h5)
            have HR5 := hid (rw_one wr el)
            have HPs2 := hid (show x.t.parts = xs2 ++ [el] by rw [HPs.out, if_pos ⟨rfl, he⟩])
            clear h5 HX2 HPs
            go_wp2_with (first
              | ((with_reducible refine wpList_app_ints rfl _ _ rfl w.heap.size _ _ _ ?_ HS5.out.own HS5.out.nn ⟨some ⟨wr.heap.size, 0, none⟩, 1, 1⟩ [el] ?_ HR5.out rfl ?_ HS5.out.bel.size ?_); exact rfl; exact rfl; (have := HL2.out; simp only [List.length_cons, List.length_nil]; omega); (intro A7 m7 c7 w7 hm7 hown7 hgrow7 hnn7; have HS7 := hid (HS5.out.app hown7 hgrow7 hnn7); have HM7 := hid hm7; clear hm7 hown7 hgrow7 hnn7)))
            show R (.returned (.slice A7 m7 c7)) w7
            rw [HR.out, HPs2.out]
            have e : m7 = (xs2 ++ [el]).length := by rw [HM7.out, List.length_append]
            subst e
            exact ⟨A7, c7, rfl, HS7.out.bel, HS7.out.own⟩
          · have HPs2 := hid (show x.t.parts = xs2 by rw [HPs.out, if_neg h9, List.append_nil])
            clear HPs
            have hcond : (k == 9) = false ∨ ((k == 9) = true ∧ ¬ (0 : Int) ≤ el) := by
              by_cases hk : k = 9
              · exact .inr ⟨by simpa using hk, fun he => h9 ⟨hk, he⟩⟩
              · exact .inl (by simpa using hk)
            have HFin : R (.returned (.slice A0 m0 c0')) wr := by
              rw [HR.out, HPs2.out]
              have hm : m0 = xs2.length := by
                rcases HX2.out.own.2 with ⟨e, h0⟩ | ⟨_, _, _, e, _⟩
                · injection e with _ e2 _; omega
                · injection e with _ e2 _
              subst hm
              exact ⟨A0, c0', rfl, HX2.out.bel, HX2.out.own⟩
            have HFin := hid HFin
            clear h9
            rcases hcond with hk | ⟨hk, hel⟩
            · have hk' : ¬ k = 9 := by simpa using hk
              clear hk
              go_wp2_with fail
              show R (.returned (.slice A0 m0 c0')) wr
              exact HFin.out
            · have hk' : k = 9 := by simpa using hk
              subst hk'
              clear hk
              go_wp2_with fail
              show R (.returned (.slice A0 m0 c0')) wr
              exact HFin.out
end Go.Proofs.Ytbhfkgaenahchaa
