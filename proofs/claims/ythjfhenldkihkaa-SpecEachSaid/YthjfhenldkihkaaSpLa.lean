/- spec: the laws' first question: a specification put together by hand. -/
import Derived.Test.YthjfhenldkihkaaSpLb
import Derived.Test.YthjfhenldkihkaaSpW
import Derived.Test.YthjfhenldkihkaaSpN
import Derived.Test.YthjfhenldkihkaaSpC
namespace Go.Proofs.Ythjfhenldkihkaa
set_option linter.unusedSimpArgs false
set_option linter.unusedVariables false
open Go.RowKit

def bx1 : NV := ⟨⟨1, 1, false, false, false, 0, 9, ⟨#[]⟩, ⟨#[]⟩, 0, 0, [], [], [], ⟨#[]⟩, 0, [], 0⟩, SV.nil, SV.nil, SV.nil, SV.nil⟩
def bx2 : NV := ⟨⟨4, 0, false, false, false, 0, 0, ⟨#[]⟩, ⟨#[110]⟩, 1, 0, [], [], [], ⟨#[]⟩, 0, [], 0⟩, SV.nil, SV.nil, SV.nil, SV.nil⟩
def bfs : List FT := [⟨⟨#[110]⟩, 0, 1, ⟨#[100]⟩, ⟨#[]⟩⟩, ⟨⟨#[100]⟩, 1, 0, ⟨#[]⟩, ⟨#[]⟩⟩]
def bx3 (g : Nat) : NV := ⟨⟨5, 0, false, false, false, 0, 0, ⟨#[]⟩, ⟨#[]⟩, 0, 0, [], [], bfs, ⟨#[]⟩, 0, [], 0⟩, SV.nil, SV.nil, ⟨some ⟨g, 0, none⟩, 2, 2⟩, SV.nil⟩
theorem BOk.new (w : World) : BOk (w.alloc (.cells #[.slice none 0 0, .slice none 0 0] 39)) w.heap.size w.heap.size [] [] (.slice none 0 0) (.slice none 0 0) :=
  ⟨heap_alloc_new w _, ⟨rfl, .inl ⟨rfl, rfl⟩⟩, ⟨rfl, .inl ⟨rfl, rfl⟩⟩, fun v hv => by simp at hv⟩
theorem BOk.below {w0 w w' : World} {pb : Nat} {vs : List NV} {ds : List DT} {nv dv v : Value} (h : BOk w pb w0.heap.size vs ds nv dv) (hb : Below w0.heap.size w0 w) (hpb : w0.heap.size ≤ pb) (hv : v = nv ∨ v = dv) (hc : Chg w w' (fun k => k = pb ∨ v.ownBlock = some k)) : Below w0.heap.size w0 w' := by
  refine Chg.below hb hc hb.size (fun j hj => ?_)
  rcases hj with rfl | hj
  · exact hpb
  · rcases hv with rfl | rfl
    · exact (owns_block h.rn j hj).1
    · exact (owns_block h.rd j hj).1
theorem wpList_load_midW {ops : Array Oper} {Q : Exit → Act → World → Prop} {a : Act} {w : World} {rest : List Oper} {o : Oper} {b q : Nat} {cs : List Value} (p : Operand) (ho : o.op = .load 49 p) (hr : w.rangeAt b q cs) (hs : (Try.prog.info? 49).map (·.size) = some cs.length)
    (hw : Region.wanted o (yielded ops a.tmps) = true) (hx : a.eval p = .pointer (some ⟨b, q, none⟩)) (h : wpList Try.prog ops Q rest (a.put o.dst (.agg cs.toArray)) w) : wpList Try.prog ops Q (o :: rest) a w :=
  wpList_wanted hw fun _ hK => wp_load_mid 49 p ho b q hx cs _ hr Try.underlying49 rfl hs (hK _ _ h)
theorem SpecOwn.ok {w : World} {base : Nat} {s : SpV} (h : SpecOwn w base s) : SpecOk w (base ≤ ·) s :=
  ⟨h.nn, h.dn, h.n.rw_, h.d.rw_, fun v hv => (h.each v hv).ok⟩
theorem nil_ok (w : World) (P : Nat → Prop) (x : NV) (hk : x.K = SV.nil ∧ x.L = SV.nil ∧ x.F = SV.nil ∧ x.C = SV.nil) (ht : x.t.ks = [] ∧ x.t.ls = [] ∧ x.t.fs = [] ∧ x.t.cs = []) : NodeOk w P x ∧ Fits x := by
  obtain ⟨h1, h2, h3, h4⟩ := hk
  obtain ⟨t1, t2, t3, t4⟩ := ht
  refine ⟨⟨by rw [h1, t1]; rfl, by rw [h2, t2]; rfl, by rw [h3, t3]; rfl, by rw [h4, t4]; rfl, ?_, ?_, ?_, ?_⟩, ⟨?_, ?_, ?_, ?_⟩⟩
  · rw [t1]; exact Rw.nil _ _ _
  · rw [t2]; exact Rw.nil _ _ _
  · rw [t3]; exact Rw.nil _ _ _
  · rw [t4]; exact Rw.nil _ _ _
  · rw [h1]; decide
  · rw [h2]; decide
  · rw [h3]; decide
  · rw [h4]; decide
theorem add1 {w : World} {pb base : Nat} {nv dv : Value} (h : BOk w pb base [] [] nv dv) (hb : base ≤ w.heap.size) : Calls Try.prog 12 #[.pointer (some ⟨pb, 0, none⟩), .agg #[.int .i64 1, .int .i64 1, .bool false, .bool false, .bool false, .int .u64 0, .int .u64 9, .string ⟨#[]⟩, .string ⟨#[]⟩, .int .u64 0, .int .u64 0, .slice none 0 0, .slice none 0 0, .slice none 0 0, .string ⟨#[]⟩, .int .u64 0, .slice none 0 0, .int .i64 0]] w fun e w' => e = .returned (.tuple #[.int .i64 0, .int .i64 0]) ∧ ∃ (y : NV) (nv' : Value), y.t = bx1.t ∧ BOk w' pb base [y] [] nv' dv ∧ Chg w w' (fun k => k = pb ∨ nv.ownBlock = some k) :=
  Add_yes (P := fun _ => True) h hb bx1 (nil_ok w _ bx1 ⟨rfl, rfl, rfl, rfl⟩ ⟨rfl, rfl, rfl, rfl⟩).1 (nil_ok w (fun _ => True) bx1 ⟨rfl, rfl, rfl, rfl⟩ ⟨rfl, rfl, rfl, rfl⟩).2 (by decide)
theorem add2 {w : World} {pb base : Nat} {nv dv : Value} {y1 : NV} (h : BOk w pb base [y1] [] nv dv) (hb : base ≤ w.heap.size) : Calls Try.prog 12 #[.pointer (some ⟨pb, 0, none⟩), .agg #[.int .i64 4, .int .i64 0, .bool false, .bool false, .bool false, .int .u64 0, .int .u64 0, .string ⟨#[]⟩, .string ⟨#[110]⟩, .int .u64 1, .int .u64 0, .slice none 0 0, .slice none 0 0, .slice none 0 0, .string ⟨#[]⟩, .int .u64 0, .slice none 0 0, .int .i64 0]] w fun e w' => e = .returned (.tuple #[.int .i64 1, .int .i64 0]) ∧ ∃ (y : NV) (nv' : Value), y.t = bx2.t ∧ BOk w' pb base [y1, y] [] nv' dv ∧ Chg w w' (fun k => k = pb ∨ nv.ownBlock = some k) :=
  Add_yes (P := fun _ => True) h hb bx2 (nil_ok w _ bx2 ⟨rfl, rfl, rfl, rfl⟩ ⟨rfl, rfl, rfl, rfl⟩).1 (nil_ok w (fun _ => True) bx2 ⟨rfl, rfl, rfl, rfl⟩ ⟨rfl, rfl, rfl, rfl⟩).2 (by show 1 < 2048; decide)
theorem add3 {w : World} {pb base g : Nat} {nv dv : Value} {y1 y2 : NV} (h : BOk w pb base [y1, y2] [] nv dv) (hb : base ≤ w.heap.size) (hg : Blk w g 51 (flatF bfs)) : Calls Try.prog 12 #[.pointer (some ⟨pb, 0, none⟩), .agg #[.int .i64 5, .int .i64 0, .bool false, .bool false, .bool false, .int .u64 0, .int .u64 0, .string ⟨#[]⟩, .string ⟨#[]⟩, .int .u64 0, .int .u64 0, .slice none 0 0, .slice none 0 0, .slice (some ⟨g, 0, none⟩) 2 2, .string ⟨#[]⟩, .int .u64 0, .slice none 0 0, .int .i64 0]] w fun e w' => e = .returned (.tuple #[.int .i64 2, .int .i64 0]) ∧ ∃ (y : NV) (nv' : Value), y.t = (bx3 g).t ∧ BOk w' pb base [y1, y2, y] [] nv' dv ∧ Chg w w' (fun k => k = pb ∨ nv.ownBlock = some k) :=
  Add_yes (P := fun _ => True) h hb (bx3 g) ⟨rfl, rfl, rfl, rfl, Rw.nil _ _ _, Rw.nil _ _ _, ⟨fun e => (nomatch e), fun _ => ⟨g, 0, rfl, hg.lt, trivial, fun j hj => by rw [Nat.zero_add, Blk.at hg]; exact List.getElem?_eq_getElem hj⟩⟩, Rw.nil _ _ _⟩ ⟨Nat.zero_le _, Nat.zero_le _, by show 2 ≤ 1048576; decide, Nat.zero_le _⟩ (by show 2 < 2048; decide)
def bmain : DT := ⟨⟨#[109, 97, 105, 110]⟩, 2⟩
set_option maxRecDepth 100000 in
theorem b_ck1 (y x : NV) (h : y.t = x.t) (o : y.K.n = y.t.ks.length ∧ y.L.n = y.t.ls.length ∧ y.F.n = y.t.fs.length ∧ y.C.n = y.t.cs.length) (hx : ckV ⟨x.t, ⟨none, x.t.ks.length, 0⟩, ⟨none, x.t.ls.length, 0⟩, ⟨none, x.t.fs.length, 0⟩, ⟨none, x.t.cs.length, 0⟩⟩ = 0) : ckV y = 0 := by
  obtain ⟨a1, a2, a3, a4⟩ := o
  obtain ⟨t, ⟨_, k, _⟩, ⟨_, l, _⟩, ⟨_, f, _⟩, ⟨_, s, _⟩⟩ := y
  simp only at h a1 a2 a3 a4
  subst h a1 a2 a3 a4
  exact hx
theorem b_ck (y1 y2 y3 : NV) (h1 : y1.t = bx1.t) (h2 : y2.t = bx2.t) (h3 : y3.t = (bx3 0).t) (o : ∀ v ∈ [y1, y2, y3], v.K.n = v.t.ks.length ∧ v.L.n = v.t.ls.length ∧ v.F.n = v.t.fs.length ∧ v.C.n = v.t.cs.length) : ckS [y1, y2, y3] [bmain] = 0 := by
  have e1 := b_ck1 y1 bx1 h1 (o y1 (by simp)) (by simp only [ckV, foB, swB, wdB, ByteArray.toList_eq]; decide)
  have e2 := b_ck1 y2 bx2 h2 (o y2 (by simp)) (by simp only [ckV, foB, swB, wdB, ByteArray.toList_eq]; decide)
  have e3 := b_ck1 y3 (bx3 0) h3 (o y3 (by simp)) (by simp only [ckV, foB, swB, wdB, ByteArray.toList_eq]; decide)
  have p1 : bx1.t.parts = [] := rfl
  have p2 : bx2.t.parts = [] := rfl
  have p3 : (bx3 0).t.parts = [0, 1] := rfl
  unfold ckS
  rw [if_neg (by simp)]
  simp only [ckN, e1, e2, e3, h1, h2, h3, p1, p2, p3]
  rfl
theorem b_spec (s : SpV) (ht : s.ts = [bx1.t, bx2.t, (bx3 0).t]) (hd : s.ds = [bmain]) (o : ∀ v ∈ s.vs, v.K.n = v.t.ks.length ∧ v.L.n = v.t.ls.length ∧ v.F.n = v.t.fs.length ∧ v.C.n = v.t.cs.length) : ckS s.vs s.ds = 0 ∧ ∃ v1 v2 v3, s.vs = [v1, v2, v3] ∧ v1.t = bx1.t ∧ v2.t = bx2.t ∧ v3.t = (bx3 0).t := by
  obtain ⟨vs, ds, N, D⟩ := s
  simp only [SpV.ts] at ht hd o ⊢
  subst hd
  rcases vs with _ | ⟨v1, _ | ⟨v2, _ | ⟨v3, _ | ⟨v4, vs⟩⟩⟩⟩
  · cases ht
  · cases (List.cons.inj ht).2
  · cases (List.cons.inj (List.cons.inj ht).2).2
  · simp only [List.map_cons, List.map_nil, List.cons.injEq, and_true] at ht
    exact ⟨b_ck v1 v2 v3 ht.1 ht.2.1 ht.2.2 o, v1, v2, v3, rfl, ht.1, ht.2.1, ht.2.2⟩
  · cases (List.cons.inj (List.cons.inj (List.cons.inj ht).2).2).2
set_option maxRecDepth 100000 in
set_option maxHeartbeats 4000000 in
theorem builds_any (w : World) : Calls Try.prog 4 #[] w fun e w' => e = .returned (.bool true) ∧ Below w.heap.size w w' := by
  have hA := (Below.refl w.heap.size w).alloc (Nat.le_refl _) (.cells #[.slice none 0 0, .slice none 0 0] 39)
  have hO := BOk.new w
  have HB := hid hA
  have HO := hid hO
  obtain ⟨R, hR⟩ : ∃ R : Ending → World → Prop, R = fun e w' => e = .returned (.bool true) ∧ Below w.heap.size w w' := ⟨_, rfl⟩
  rw [← hR]
  have HR := hid hR
  clear hR hA hO
  go_enter Try.func4, Try.ntmps4
  go_upto_region 2 with (fail)
  change Code.wp _ _ _ _ (w.alloc (.cells #[.slice none 0 0, .slice none 0 0] 39))
  generalize w.alloc (.cells #[.slice none 0 0, .slice none 0 0] 39) = w1 at *
  have hp0 : w.heap.size ≤ w.heap.size := Nat.le_refl _
  have HP0 := hid hp0
  clear hp0
  go_wp2_with fail
  refine (add1 HO.out HB.out.size).mono ?_
  rintro e w2 ⟨rfl, y1, nv1, hy1, ho2, hc2⟩
  have HB2 := hid (HO.out.below HB.out HP0.out (.inl rfl) hc2)
  have HO2 := hid ho2
  clear ho2 hc2 HO HB
  go_wp2_with fail
  refine (add2 HO2.out HB2.out.size).mono ?_
  rintro e w3 ⟨rfl, y2, nv2, hy2, ho3, hc3⟩
  have HB3 := hid (HO2.out.below HB2.out HP0.out (.inl rfl) hc3)
  have HO3 := hid ho3
  clear ho3 hc3 HO2 HB2
  go_wp2_with fail
  have hb3 := (Below.refl w3.heap.size w3).alloc (Nat.le_refl _) (.cells #[.string ⟨#[110]⟩, .int .i64 0, .int .i64 1, .string ⟨#[100]⟩, .string ⟨#[]⟩, .string ⟨#[100]⟩, .int .i64 1, .int .i64 0, .string ⟨#[]⟩, .string ⟨#[]⟩] 51)
  have hg3 : Blk (w3.alloc (.cells #[.string ⟨#[110]⟩, .int .i64 0, .int .i64 1, .string ⟨#[100]⟩, .string ⟨#[]⟩, .string ⟨#[100]⟩, .int .i64 1, .int .i64 0, .string ⟨#[]⟩, .string ⟨#[]⟩] 51)) w3.heap.size 51 (flatF bfs) := heap_alloc_new w3 _
  have HB3' := hid (HB3.out.trans (hb3.mono HB3.out.size))
  have HO3' := hid (HO3.out.keep hb3)
  have HG3 := hid hg3
  clear hb3 hg3 HO3 HB3
  generalize w3.alloc (.cells #[.string ⟨#[110]⟩, .int .i64 0, .int .i64 1, .string ⟨#[100]⟩, .string ⟨#[]⟩, .string ⟨#[100]⟩, .int .i64 1, .int .i64 0, .string ⟨#[]⟩, .string ⟨#[]⟩] 51) = w3b at *
  refine (add3 HO3'.out HB3'.out.size HG3.out).mono ?_
  rintro e w4 ⟨rfl, y3, nv3, hy3, ho4, hc4⟩
  have HB4 := hid (HO3'.out.below HB3'.out HP0.out (.inl rfl) hc4)
  have HO4 := hid ho4
  clear ho4 hc4 HO3' HB3' HG3
  go_wp2_with fail
  refine (Name_yes HO4.out ⟨#[109, 97, 105, 110]⟩ 2 (by decide) HB4.out.size).mono ?_
  rintro e w5 ⟨rfl, dv2, ho5, hc5⟩
  have HB5 := hid (HO4.out.below HB4.out HP0.out (.inr rfl) hc5)
  have HO5 := hid ho5
  clear ho5 hc5 HO4 HB4
  have HCk := hid (b_ck y1 y2 y3 hy1 hy2 hy3 (fun v hv => ⟨(HO5.out.each v hv).kn, (HO5.out.each v hv).ln, (HO5.out.each v hv).fn, (HO5.out.each v hv).cn⟩))
  have HYs := hid (show [y1, y2, y3].map NV.t = [bx1.t, bx2.t, (bx3 0).t] by simp [hy1, hy2, hy3]; rfl)
  have HFt := hid (show ∀ v ∈ [y1, y2, y3], Fits v from fun v hv => ((ckV_fits ((ckS_zero HCk.out).2.1 v hv) (HO5.out.each v hv).kn (HO5.out.each v hv).fn (HO5.out.each v hv).cn).1))
  clear hy1 hy2 hy3
  have HS := hid (Spec_any HO5.out HFt.out (show 3 ≤ 2048 by decide) (show 1 ≤ 64 by decide))
  go_wp2_with fail
  refine HS.out.mono ?_
  rintro e w6 ⟨hb6, h | ⟨_, s, rfl, hds, hts, hso⟩⟩
  · exact absurd HCk.out h.1
  have hbs := b_spec s (by rw [← HYs.out]; exact hts) hds (fun v hv => ⟨(hso.each v hv).kn, (hso.each v hv).ln, (hso.each v hv).fn, (hso.each v hv).cn⟩)
  have HB6 := hid (HB5.out.trans (hb6.mono HB5.out.size))
  have HSp := hid (And.intro hds (And.intro hts (And.intro hso hbs)))
  have HYs_ := HYs.out
  clear hb6 hds hts hso hbs HO5 HB5 HCk HYs HFt HS
  unfold SpV.val
  go_wp2_with fail
  simp only [List.append]
  obtain ⟨hds, hts, hso, hck, v1, v2, v3, hvs, hv1, hv2, hv3⟩ := HSp.out
  obtain ⟨bN, oN, hNA, hbNl, _, r1⟩ := rw_range (SpecOwn.ok hso).n (j := 0) (by rw [hvs]; exact (by decide : 0 < 3))
  obtain ⟨bN3, oN3, hNA3, _, _, r3⟩ := rw_range (SpecOwn.ok hso).n (j := 2) (by rw [hvs]; exact (by decide : 2 < 3))
  rw [hNA] at hNA3
  injection hNA3 with hNA3
  injection hNA3 with hb3 ho3 _
  subst hb3 ho3
  simp only [hvs, List.getElem_cons_zero, List.getElem_cons_succ] at r1 r3
  have hNn : s.N.n = 3 := by rw [hso.nn, hvs]; rfl
  have hval : s.val = .agg #[.slice (some ⟨bN, oN, none⟩) 3 s.N.c, .slice s.D.A s.D.n s.D.c] := by unfold SpV.val; rw [hNA, hNn]
  have hdn : s.D.n ≤ 1048576 := by rw [hso.dn, hds]; decide
  have hok : ∀ W, Below w6.heap.size w6 W → SpecOk W (fun _ => True) s := fun W hb => ((SpecOwn.ok hso).keep hb).mono (fun _ _ _ => rfl) (Nat.le_refl _) (fun _ _ _ => trivial)
  have hfit : ∀ v ∈ s.vs, Fits v ∧ v.t.parts.length ≤ 1048576 := fun v hv => ckV_fits ((ckS_zero hck).2.1 v hv) (hso.each v hv).kn (hso.each v hv).fn (hso.each v hv).cn
  have h7 := (Below.refl w6.heap.size w6).alloc (Nat.le_refl _) (.cells #[.slice s.N.A s.N.n s.N.c, .slice s.D.A s.D.n s.D.c] 25)
  have k7 : Blk (w6.alloc (.cells #[.slice s.N.A s.N.n s.N.c, .slice s.D.A s.D.n s.D.c] 25)) w6.heap.size 25 [.slice s.N.A s.N.n s.N.c, .slice s.D.A s.D.n s.D.c] := heap_alloc_new w6 _
  generalize w6.alloc (.cells #[.slice s.N.A s.N.n s.N.c, .slice s.D.A s.D.n s.D.c] 25) = w7 at *
  rw [hNA, hNn] at k7 ⊢
  have hx : ∀ W, Below w7.heap.size w7 W → Below w6.heap.size w6 W := fun W hb => h7.trans (hb.mono h7.size)
  refine bld_reg (g := w6.heap.size) (bN := bN) (oN := oN) (cN := s.N.c) (DA := s.D.A) (Dn := s.D.n) (Dc := s.D.c) (v1 := v1) (v3 := v3)
    (Sc := fun v W => ∃ s2 : SpV, v = s2.val ∧ s2.ds = s.ds ∧ s2.ts = s.ts ∧ SpecOwn W 0 s2) (Sk := fun v W => ∃ A c, v = .slice A 2 c)
    rfl rfl rfl rfl rfl rfl rfl rfl rfl (by simp) ?_ ?_ k7 (by have := Blk.at k7 0; simpa using this) (Nat.lt_of_lt_of_le hbNl h7.size) (range_keep r1 (h7.block bN hbNl)) (range_keep r3 (h7.block bN hbNl)) ?_ ?_ ?_ ?_ ?_ ?_ ?_ ?_ ?_ ?_
  · rintro v W W' ⟨s2, h1, h2, h3, h4⟩ hb
    exact ⟨s2, h1, h2, h3, h4.nn, h4.dn, h4.n.keep hb, h4.d.keep hb, fun v hv => (h4.each v hv).keep hb⟩
  · rintro v W W' h _
    exact h
  · intro W hb
    rw [← hval]
    refine (Root_any s W (hok W (hx W hb)) hdn).mono ?_
    rintro e W' ⟨rfl, hb2⟩
    exact ⟨_, rfl, by rw [hds]; rfl, hb2⟩
  · intro W hb
    rw [← hval]
    refine (Def_any s _ W (hok W (hx W hb)) hdn).mono ?_
    rintro e W' ⟨rfl, hb2⟩
    exact ⟨_, rfl, by rw [hds, List.nil_append]; unfold defS; rw [if_pos (by simp)], hb2⟩
  · intro W hb
    rw [← hval]
    refine (Def_any s _ W (hok W (hx W hb)) hdn).mono ?_
    rintro e W' ⟨rfl, hb2⟩
    exact ⟨_, rfl, by rw [hds, List.nil_append]; unfold defS; rw [if_neg (by simp only [ByteArray.toList_eq]; decide)]; rfl, hb2⟩
  · intro W hb
    rw [← hval]
    refine (Clone_any s W (hok W (hx W hb)) (fun v hv => (hfit v hv).1) (by rw [hNn]; decide) hdn).mono ?_
    rintro e W' ⟨s2, rfl, h1, h2, hb2, h3⟩
    exact ⟨_, rfl, ⟨s2, rfl, h1, h2, h3.base (Nat.zero_le _)⟩, hb2⟩
  · rintro u W ⟨s2, rfl, h1, h2, h3⟩ hb
    rw [← hval]
    have hck2 := (b_spec s2 (by rw [h2, hts, HYs_]) (by rw [h1, hds]; rfl) (fun v hv => ⟨(h3.each v hv).kn, (h3.each v hv).ln, (h3.each v hv).fn, (h3.each v hv).cn⟩)).1
    refine (Same_eq s s2 h1 h2 hck hck2 W (hok W (hx W hb)) ((SpecOwn.ok h3).mono (fun _ _ _ => rfl) (Nat.le_refl _) (fun _ _ _ => trivial))).mono ?_
    rintro e W' ⟨rfl, hb2⟩
    exact ⟨_, rfl, rfl, hb2⟩
  · intro W hb
    refine (most_any v1 W).mono ?_
    rintro e W' ⟨rfl, hb2⟩
    exact ⟨_, rfl, by rw [hv1]; rfl, hb2⟩
  · intro W hb
    refine (number_any v1 W).mono ?_
    rintro e W' ⟨rfl, hb2⟩
    exact ⟨_, rfl, by rw [hv1]; rfl, hb2⟩
  · intro W hb
    have hp3 : v3.t.parts.length = 2 := by rw [hv3]; rfl
    have hm3 : v3 ∈ s.vs := by rw [hvs]; simp
    refine (Kids_any v3 W ((hok W (hx W hb)).each v3 hm3) (hfit v3 hm3).1.three (hfit v3 hm3).2).mono ?_
    rintro e W' ⟨A, c, rfl, hb2, _⟩
    exact ⟨_, rfl, ⟨A, c, by rw [hp3]⟩, hb2⟩
  · exact fun v W h => h
  · rintro f W e0 hb
    simp only [bldUs, List.foldl_cons, List.foldl_nil, List.setIfInBounds_toArray, List.set_cons_zero, List.set_cons_succ]
    rw [e0]
    have HF := hid (HB6.out.trans ((hx W hb).mono HB6.out.size))
    clear hx hok hfit k7 h7 hb r1 r3 hval
    go_wp2
    show R (.returned (.bool true)) W
    rw [HR.out]
    exact ⟨rfl, HF.out⟩
end Go.Proofs.Ythjfhenldkihkaa
