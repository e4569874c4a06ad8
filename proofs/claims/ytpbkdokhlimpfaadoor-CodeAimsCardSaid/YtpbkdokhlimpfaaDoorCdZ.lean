/- code: Reached, walked. -/
import Derived.Test.YtpbkdokhlimpfaaDoorCdY
import Derived.Deep.LoopGhost
namespace Go.Proofs.YtpbkdokhlimpfaaDoor
set_option linter.unusedSimpArgs false
set_option linter.unusedVariables false
open Go.RowKit

/-- Elements of a new block behind an owned row. -/
theorem wpList_appRowAt {ops : Array Oper} {rest : List Oper} {o : Oper} {a : Act} {w : World} {Q : Exit → Act → World → Prop} (hgd : o.guard = none) (s x : Operand) (S e : TypeId) (bt : Nat) (z : Value) (hu : Tryd.prog.underlying S = some (.slice e))
    (hi : (Tryd.prog.info? e).map (fun i => (i.zero, i.size, i.bytes)) = some (some z, 1, bt)) (hz : z.cells.size = 1) (hbt : bt ≤ 16) (ho : o.op = .call { callee := .builtin .append, args := #[s, x], argTypes := #[S, S] })
    (base : Nat) (v : Value) (n : Nat) (xs : List Value) (hs : a.eval s = v) (hown : w.ownsRow base e 1 v n xs) (g m : Nat) (ys : List Value) (hx : a.eval x = .slice (some ⟨g, 0, none⟩) m m) (hr : Blk w g e ys) (hm : ys.length = m) (h1 : ∀ u ∈ ys, u.oneCell' = true) (hb : n + m ≤ 4294967296) (hbase : base ≤ w.heap.size)
    (h : ∀ A c w', w'.ownsRow base e 1 (.slice A (n + m) c) (n + m) (xs ++ ys) → w.grownBy w' v.ownBlock → ((Value.slice A (n + m) c).ownBlock = v.ownBlock ∨ (Value.slice A (n + m) c).ownBlock = some w.heap.size) → wpList Tryd.prog ops Q rest (a.put o.dst (.slice A (n + m) c)) w') : wpList Tryd.prog ops Q (o :: rest) a w := by
  obtain ⟨i0, hi0, hz0, hz1, hz2⟩ := info_parts hi
  have hmul : (n + m) * bt ≤ 4294967296 * 16 := Nat.mul_le_mul hb hbt
  refine wpList_append_own_at _ hgd s x S ho base e i0 z 1 bt hu hi0 hz0 hz1 hz2 hz (by decide) v n xs hs hown ⟨g, 0, none⟩ m m ys hx (by omega) (fun j u hj => by rw [addr_add, Nat.zero_add, Blk.at hr j]; exact hj) h1 (by unfold maxLen; omega) (by omega) hbase ?_
  intro v' w' h2 h3 _ h5
  obtain ⟨A, c, rfl⟩ := owns_shape h2
  exact h A c w' h2 h3 h5
/-- What Reached answers. -/
def RchR (w : World) (p : PT) (e : Ending) (w' : World) : Prop := ∃ (g : Nat) (met : List Bool), e = .returned (.slice (some ⟨g, 0, none⟩) p.ss.length p.ss.length) ∧ w.heap.size ≤ g ∧ Blk w' g 4 (bools met) ∧ Below w.heap.size w w' ∧ rchL p met
set_option maxRecDepth 100000 in
set_option maxHeartbeats 4000000 in
theorem Reached_any (p : PT) (w : World) {P : Nat → Prop} (hP : PtOk w P p) (hl : p.ss.length ≤ 1000000) (hws : ∀ x ∈ p.ss, x.ws.length ≤ 1000000) : Calls Tryd.prog 22 #[p.val] w (RchR w p) := by
  obtain ⟨RR, hRR⟩ : ∃ RR, RR = RchR w p := ⟨_, rfl⟩
  rw [← hRR]
  have HRR := hid hRR
  clear hRR
  obtain ⟨hb, h1⟩ := box_prog w p
  have hpc : p.cells.toArray = #[.slice p.S.A p.S.n p.S.c, .int .i64 p.sl, .int .i64 p.su, .int .i64 p.au] := rfl
  rw [hpc] at hb h1
  have hs1 : (w.alloc (.cells #[.slice p.S.A p.S.n p.S.c, .int .i64 p.sl, .int .i64 p.su, .int .i64 p.au] 24)).heap.size = w.heap.size + 1 := by simp
  have HX := hid h1
  have HB := hid hb
  have HS := hid hs1
  have HP := hid hP
  have HWs := hid hws
  have HLn := hid hl
  have HNe := hid hP.n
  obtain ⟨x0, x1, x2, x3⟩ := h1.four
  have hmk := fun W => mk_bools p.S.n (by rw [hP.n]; omega) W
  have HCk := hid (fun W (hW : PtOk W P p) => Check_any may_any p W hW hl hws)
  obtain ⟨R, hR⟩ : ∃ R, R = ckS (mayS p) p := ⟨_, rfl⟩
  rw [← hR] at HCk
  have HR := hid hR
  have hnb : p.S.n ≤ 1000000 := by rw [hP.n]; exact hl
  unfold PT.val fltV at HCk
  unfold PT.val
  clear hb h1 hpc hs1 hP hl hws hR
  go_enter Tryd.func22, Tryd.ntmps22
  go_upto_region 1 with (fail)
  generalize w.alloc (.cells #[.slice p.S.A p.S.n p.S.c, .int .i64 p.sl, .int .i64 p.su, .int .i64 p.au] 24) = w1 at *
  go_upto_region 2 with (fail)
  have hb2 : Below w1.heap.size w1 (w1.alloc (.cells (bools (List.replicate p.S.n false)).toArray 4)) := (Below.refl _ _).alloc (Nat.le_refl _) _
  have HB2 := hid (HB.out.trans (hb2.mono HB.out.size))
  have HX2 := hid (Blk.keep HX.out hb2)
  have HM2 := hid (show Blk (w1.alloc (.cells (bools (List.replicate p.S.n false)).toArray 4)) w1.heap.size 4 (bools (List.replicate p.S.n false)) from heap_alloc_new w1 _)
  clear x0 x1 x2 x3 hmk hb2
  obtain ⟨x0, x1, x2, x3⟩ := BoxP.four HX2.out
  generalize w1.alloc (.cells (bools (List.replicate p.S.n false)).toArray 4) = w2 at *
  have hfl : ∀ W, (Instr.field 29 (.agg #[.int .i64 R.1, .int .i64 R.2]) 0).run Tryd.prog W = .ok (.int .i64 R.1) W := fun W => by kernel_rfl
  have HC2 := hid (HCk.out w2 (HP.out.keep HB2.out))
  rw [HS.out]
  go_upto_if 15 with (go_at_call 9; (with_reducible refine HC2.out.mono ?_); rintro e w3 ⟨rfl, hb3⟩; have HB3 := hid hb3; clear hb3)
  have HI := hid (show RcI w p w.heap.size (w.heap.size + 1) (List.replicate p.S.n false) [] none 0 0 w3 from ⟨HB2.out.trans (HB3.out.mono HB2.out.size), by omega, Nat.le_refl _, Blk.keep HX2.out HB3.out, Blk.keep (by have h := HM2.out; rw [HS.out] at h; exact h) HB3.out, World.ownsRow_nil _ _ _ _⟩)
  clear x0 x1 x2 x3 HC2 HX2 HM2 HB2 HB3
  by_cases hR0 : R.1 = 0
  · have hRb : (R.1 != 0) = false := by simpa using hR0
    have HCz := hid (show (ckS (mayS p) p).1 = 0 from by rw [← HR.out]; exact hR0)
    have hz := size_ok (ck_ok HCz.out).1
    have hpos : (0 : Int) < (p.S.n : Int) := by have := HNe.out; omega
    clear hfl hR0
    have m0 := Blk.at HI.out.met 0
    have mf := Blk.free HI.out.met
    have e0 : (bools (List.replicate p.S.n false))[0]? = some (.bool false) := by
      unfold bools
      rw [List.getElem?_map, List.getElem?_replicate, if_pos (by omega)]
      rfl
    rw [e0] at m0
    clear e0 hz
    go_upto_region 5 with (fail)
    have HI2 := hid (HI.out.mark 0)
    clear m0 mf HI
    generalize w3.setCell ⟨w.heap.size + 1, 0, none⟩ (.bool true) = w4 at *
    have hO := one_int w4 0
    have HI3 := hid (show RcI w p w.heap.size (w.heap.size + 1) ((List.replicate p.S.n false).set 0 true) [0] (some ⟨w4.heap.size, 0, none⟩) 1 1 (w4.alloc (.cells #[.int .i64 0] 3)) from by
      have h := HI2.out.keep hO.2
      exact ⟨h.bel, h.lo, h.lo0, h.box, h.met, owns_base (own_lit w4 [0] (by simp)) HI2.out.bel.size⟩)
    have HM3 := hid (show RcM p ((List.replicate p.S.n false).set 0 true) [0] from by
      have hz := size_ok (ck_ok HCz.out).1
      have hn := HNe.out
      have h0 : ((List.replicate p.S.n false).set 0 true)[0]? = some true := by rw [List.getElem?_set_self (by rw [List.length_replicate]; omega)]
      have hone : ∀ i : Nat, ((List.replicate p.S.n false).set 0 true)[i]? = some true → i = 0 := fun i hi => by
        rw [List.getElem?_set] at hi
        split at hi
        · omega
        · rw [List.getElem?_replicate] at hi
          split at hi <;> simp at hi
      refine ⟨by rw [List.length_set, List.length_replicate]; exact hn, fun t ht => ⟨0, by simpa using ht, h0⟩, fun i hi => by rw [hone i hi]; exact Rch.zero, fun i hi => .inl (by rw [hone i hi]; simp), h0⟩)
    have HU := hid (show 1 + unm ((List.replicate p.S.n false).set 0 true) ≤ p.S.n + 1 from by
      unfold unm
      have := List.length_filter_le (!·) ((List.replicate p.S.n false).set 0 true)
      rw [List.length_set, List.length_replicate] at this
      omega)
    generalize (List.replicate p.S.n false).set 0 true = met0 at *
    clear HI2
    go_wp2_with fail
    generalize w4.alloc (.cells #[.int .i64 0] 3) = w5 at *
    clear hO
    simp only [hRb]
    go_loopg [4] (p.S.n + 1) (fun m v wr => ∃ (met : List Bool) (todo : List Int) (A : Option Addr) (n c : Nat), v = .slice A n c ∧ n ≤ 1000001 ∧ Hid (todo.length = n ∧ n + unm met ≤ m ∧ m ≤ p.S.n + 1) ∧ Hid (RcI w p w.heap.size (w.heap.size + 1) met todo A n c wr) ∧ Hid (RcM p met todo))
    case atStart => exact ⟨met0, [0], some ⟨w4.heap.size, 0, none⟩, 1, 1, rfl, by omega, hid ⟨rfl, HU.out, Nat.le_refl _⟩, HI3, HM3⟩
    case round =>
      clear HI3 HM3 HU
      obtain ⟨met, todo, A, n, c, rfl, hn, HL, HI, HM⟩ := hrel
      by_cases hn0 : (0 : Int) < (n : Int)
      · obtain ⟨k, rfl⟩ : ∃ k, n = k + 1 := ⟨n - 1, by omega⟩
        obtain ⟨td, t, rfl⟩ : ∃ td t, todo = td ++ [t] := ⟨todo.dropLast, todo.getLast (by intro h; rw [h] at HL; have := HL.out.1; simp at this), by rw [List.dropLast_concat_getLast]⟩
        obtain ⟨a, rfl, ham⟩ := HM.out.td t (by simp)
        have htl : td.length = k := by have := HL.out.1; rw [List.length_append, List.length_singleton] at this; omega
        obtain ⟨g, hA, -, -, hgl, hgc, -⟩ := owns_at HI.out.row (by omega)
        subst hA
        have t0 := hgc k (.int .i64 (a : Int)) (by
          unfold ints
          rw [List.getElem?_map, List.getElem?_append_right (by omega), htl, Nat.sub_self]
          rfl)
        have hcap : k + 1 ≤ c := by
          rcases HI.out.row.2 with ⟨hv, _⟩ | ⟨g', cap, cur, hv, _, _, h1, _⟩
          · cases hv
          · injection hv with _ _ e; omega
        have hap : a < p.ss.length := by have := (List.getElem?_eq_some_iff.1 ham).1; rw [HM.out.len] at this; exact this
        obtain ⟨b, o, hSA, hbl, -, hAt⟩ := (HP.out.keep HI.out.bel).at hap
        have hxx := (HP.out.each _ (List.getElem_mem hap)).keep HI.out.bel
        have hstep : stepAt p a = ldL (a : Int) (p.ss[a]) := by unfold stepAt; rw [List.getElem?_eq_getElem hap]
        have HLd := hid (leads_any (a : Int) (p.ss[a]) b (o + a * 265) wr hAt hxx (HWs.out _ (List.getElem_mem hap)) (by omega) (by have := HLn.out; omega))
        rw [← hstep] at HLd
        have HIn := hid (stepAt_in HCz.out a)
        have HI2 := hid HI.out.pop
        have HN2 := hid HM.out.pop
        obtain ⟨x0, x1, x2, x3⟩ := BoxP.four HI.out.box
        rw [hSA] at x0
        have hai : (a : Int) < (p.S.n : Int) := by have := HNe.out; omega
        have ha0 : (0 : Int) ≤ (a : Int) := by omega
        have HTl := hid htl
        have hw1 : wrap64 (((k + 1 : Nat) : Int) - 1) = (k : Int) := by unfold wrap64; omega
        have hk0 : (0 : Int) ≤ (k : Int) := by omega
        have hkc : (k : Int) ≤ (c : Int) := by omega
        have hlen : (stepAt p a).length ≤ 1000001 := by
          rw [hstep]
          have h := HWs.out _ (List.getElem_mem hap)
          unfold ldL fkL
          split
          · simp
          split
          · simp
          split
          · simp
          split
          · rw [List.length_append, List.length_map]; split <;> simp <;> omega
          · simp
        obtain ⟨L, hL⟩ : ∃ L, L = stepAt p a := ⟨_, rfl⟩
        rw [← hL] at HLd HIn hlen
        have HLe := hid hL
        have HSA := hid hSA
        clear hgc ham hap hAt hxx hstep hL HI HM htl hcap hbl hSA
        go_upto_region 9 with (fail)
        go_wp2_with (go_at_call 35; (with_reducible refine HLd.out.mono ?_); rintro e w6 ⟨A6, c6, rfl, ho6, hb6⟩; have HB6 := hid hb6; have HO6 := hid ho6; clear hb6 ho6 x0 x1 x2 x3 t0)
        have HI6 := hid (HI2.out.keep HB6.out)
        have HAp := hid (show ∀ bb, (Value.slice (some ⟨g, 0, none⟩) k c).ownBlock = some bb → (Value.slice A6 L.length c6).ownBlock ≠ some bb from fun bb h1 h2 => by
          have e1 : g = bb := by simpa [Value.ownBlock] using h1
          have := (owns_block HO6.out bb h2).1
          omega)
        have HMt := hid (And.intro HTl.out (And.intro HL.out.2.1 HL.out.2.2))
        clear HI2 HLd HL HTl hw1 hk0 hkc hai ha0 hgl
        obtain ⟨wa, hwa⟩ : ∃ wa, wa = wr := ⟨_, rfl⟩
        rw [← hwa] at HO6 HB6
        clear hwa
        go_loopg [4, 41] L.length (fun m v i wr2 => ∃ (q : Nat) (met2 : List Bool) (td2 : List Int) (A2 : Option Addr) (n2 c2 : Nat), v = .slice A2 n2 c2 ∧ i = .int .i64 (q : Int) ∧ n2 ≤ 1000001 ∧ q ≤ L.length ∧ L.length ≤ m + q ∧ Hid (td2.length = n2 ∧ n2 + unm met2 ≤ k + unm met) ∧ Hid (RcI w p w.heap.size (w.heap.size + 1) met2 td2 A2 n2 c2 wr2) ∧ Hid (RcN p met2 td2 a q) ∧ Hid (wr2.ownsRow wa.heap.size 3 1 (.slice A6 L.length c6) L.length (ints L)) ∧ Hid (∀ bb, (Value.slice A2 n2 c2).ownBlock = some bb → (Value.slice A6 L.length c6).ownBlock ≠ some bb))
        case atStart => exact ⟨0, met, td, some ⟨g, 0, none⟩, k, c, rfl, rfl, by omega, by omega, by omega, hid ⟨HMt.out.1, Nat.le_refl _⟩, HI6, HN2, HO6, HAp⟩
        case round =>
          clear HI6 HN2 HO6 HAp
          obtain ⟨q, met2, td2, A2, n2, c2, rfl, rfl, hn2, hq, hm, HL2, HI, HN, HO, HAp⟩ := hrel
          by_cases hlt : (q : Int) < (L.length : Int)
          · have hql : q < L.length := by omega
            obtain ⟨g6, hA6, -, -, hg6l, hgc6, -⟩ := owns_at HO.out (by omega)
            subst hA6
            obtain ⟨jj, hjj⟩ : ∃ jj : Nat, L[q] = (jj : Int) := ⟨(L[q]).toNat, by have := HIn.out _ (List.getElem_mem hql); omega⟩
            have hjn : (jj : Int) < (p.S.n : Int) := by have := HIn.out _ (List.getElem_mem hql); have := HNe.out; omega
            have hj0 : (0 : Int) ≤ (jj : Int) := by omega
            have l0 := hgc6 q (.int .i64 (jj : Int)) (by
              unfold ints
              rw [List.getElem?_map, List.getElem?_eq_getElem hql, hjj]
              rfl)
            have hjm : jj < met2.length := by have h1 := HN.out.len; have h2 := HNe.out; omega
            have HJe := hid (show ∀ (h : q < (stepAt p a).length), (stepAt p a)[q] = (jj : Int) from fun h => by have e := HLe.out; subst e; exact hjj)
            have HQl := hid (show q < (stepAt p a).length from by rw [← HLe.out]; exact hql)
            have m0 := Blk.at HI.out.met jj
            have mf := Blk.free HI.out.met
            obtain ⟨bb, hbb⟩ : ∃ bb, met2[jj]? = some bb := ⟨_, List.getElem?_eq_getElem hjm⟩
            have e0 : (bools met2)[jj]? = some (.bool bb) := by unfold bools; rw [List.getElem?_map, hbb]; rfl
            rw [e0] at m0
            have HBb := hid hbb
            have HJm := hid hjm
            clear e0 hbb hgc6 hjj hjm hql
            cases bb
            · have hU := unm_set met2 jj HBb.out
              have HU := hid hU
              have HI2 := hid (HI.out.mark jj)
              have HO2 := hid (show (wr.setCell ⟨w.heap.size + 1, jj, none⟩ (.bool true)).ownsRow wa.heap.size 3 1 (.slice (some ⟨g6, 0, none⟩) L.length c6) L.length (ints L) from owns_mono HO.out (fun bb hh => Below.heap_setCell wr _ _ bb (fun e => by
                simp only at e
                subst e
                exact own_neN HO.out HI.out.met (by decide) hh)))
              clear hU
              go_upto_region 14 with (fail)
              generalize wr.setCell ⟨w.heap.size + 1, jj, none⟩ (.bool true) = w8 at *
              have HO8 := hid (one_int w8 (jj : Int))
              have HI9 := hid (HI2.out.keep HO8.out.2)
              clear m0 mf l0
              go_wp2_with (first
                | ((refine wpList_appRowAt rfl _ _ 74 3 8 _ Tryd.underlying74 info_intV rfl (by decide) rfl w.heap.size (.slice A2 n2 c2) n2 _ ?_ HI9.out.row w8.heap.size 1 (ints [(jj : Int)]) ?_ HO8.out.1 rfl (ints_one _) ?_ HI9.out.bel.size ?_); rfl; rfl; omega; intro A7 c7 w7 hown7 hg7 hat7; have HI7 := hid (HI2.out.app HO8.out.2 hown7 hg7); have HAt := hid hat7; have HG7 := hid hg7; clear hown7 hg7 hat7))
              go_roundg (L.length - (q + 1))
              case measure => omega
              case rel =>
                refine ⟨q + 1, met2.set jj true, td2 ++ [(jj : Int)], A7, n2 + 1, c7, rfl, by go_num, ?_, by omega, by omega, hid ⟨?_, ?_⟩, HI7, hid ?_, hid ?_, hid ?_⟩
                · have h1 := HL2.out; have h2 := HU.out; have h3 := HMt.out; omega
                · rw [List.length_append, HL2.out.1]; rfl
                · have h1 := HL2.out; have h2 := HU.out; omega
                · have h := HN.out.add HCz.out HQl.out
                  rw [HJe.out HQl.out, Int.toNat_natCast] at h
                  exact h
                · have h9 := owns_mono HO2.out (fun bb hh => HO8.out.2.block bb (owns_block HO2.out bb hh).2)
                  refine owns_mono h9 (fun bb hh => HG7.out.block bb (owns_block h9 bb hh).2 (fun e => HAp.out bb e.symm hh))
                · intro bb h1 h2
                  rcases HAt.out with h | h
                  · exact HAp.out bb (by rw [← h]; exact h1) h2
                  · rw [h] at h1
                    injection h1 with h1
                    have h3 := (owns_block HO2.out bb h2).2
                    have h4 : (w8.alloc (.cells #[.int .i64 (jj : Int)] 3)).heap.size = w8.heap.size + 1 := by simp
                    omega
            · clear mf
              go_wp2_with fail
              go_roundg (L.length - (q + 1))
              case measure => omega
              case rel =>
                refine ⟨q + 1, met2, td2, A2, n2, c2, rfl, by go_num, hn2, by omega, by omega, HL2, HI, hid ?_, HO, HAp⟩
                refine HN.out.skip HQl.out ?_
                rw [HJe.out HQl.out, Int.toNat_natCast]
                exact HBb.out
          · have hqe : q = L.length := by omega
            subst hqe
            go_wp2_with fail
            go_roundg (k + unm met)
            case measure => have := HMt.out; omega
            case rel =>
              refine ⟨met2, td2, A2, n2, c2, rfl, hn2, hid ⟨HL2.out.1, HL2.out.2, by have := HMt.out; omega⟩, HI, hid (HN.out.done (by rw [← HLe.out]; exact Nat.le_refl _))⟩
      · have hz : n = 0 := by omega
        subst hz
        go_wp2_with fail
        show RR (.returned (.slice (some ⟨w.heap.size + 1, 0, none⟩) p.S.n p.S.n)) wr
        rw [HRR.out]
        refine ⟨w.heap.size + 1, met, by rw [HNe.out], by omega, HI.out.met, HI.out.bel, ?_⟩
        have ht : todo = [] := List.eq_nil_of_length_eq_zero HL.out.1
        subst ht
        unfold rchL
        rw [if_pos HCz.out]
        exact ⟨HM.out.len, HM.out.all⟩
  · have hRb : (R.1 != 0) = true := by simpa using hR0
    have HCz := hid (show ¬ (ckS (mayS p) p).1 = 0 from by rw [← HR.out]; exact hR0)
    clear hR0
    go_wp2_with fail
    show RR (.returned (.slice (some ⟨w.heap.size + 1, 0, none⟩) p.S.n p.S.n)) w3
    rw [HRR.out]
    refine ⟨w.heap.size + 1, List.replicate p.S.n false, by rw [HNe.out], by omega, HI.out.met, HI.out.bel, ?_⟩
    unfold rchL
    rw [if_neg HCz.out]
    exact ⟨by rw [List.length_replicate]; exact HNe.out, fun i h => by rw [List.getElem?_replicate] at h; split at h <;> simp at h⟩
end Go.Proofs.YtpbkdokhlimpfaaDoor
