/- lex: the law LexPairs, walked. -/
import Derived.Test.YtmefllfmcjjbaaaLxR
import Derived.Test.YtmefllfmcjjbaaaLxS
import Derived.Test.YtmefllfmcjjbaaaLxGr
import Derived.Laws.StructEq
namespace Go.Proofs.Ytmefllfmcjjbaaa
open Go.RowKit

theorem run_ftv (c p : Int) (W : World) : (binOp .eql 26 (.agg #[.int .i64 c, .int .i64 p]) (.agg #[.int .i64 c, .int .i64 p])).run Try.prog W = .ok (.bool true) W := by
  have u3 := Try.underlying3
  have u4 := Try.underlying24
  have a3 := Try.isAgg3
  have z3 := Try.sizeOf3
  have a4 := Try.isAgg24
  have z4 := Try.sizeOf24
  have hS : Try.prog.underlying 26 = some (.struct (Try.prog.fieldsOf 26)) := by kernel_rfl
  have hp : Try.prog.stoodInHeld 26 = false := by kernel_rfl
  rw [run_eql_struct, show (10000 : Nat) = 9999 + 1 from rfl, run_equalIn_agg W 9999 26 _ _ hS hp]
  simp only [Program.fieldsOf, Try.underlying26]
  go_simp
theorem run_fte (c p : Int) (W : World) : (Op.equalIn 10000 26 (.agg #[.int .i64 c, .int .i64 p]) (.agg #[.int .i64 c, .int .i64 p])).run Try.prog W = .ok true W := by
  have u3 := Try.underlying3
  have u4 := Try.underlying24
  have a3 := Try.isAgg3
  have z3 := Try.sizeOf3
  have a4 := Try.isAgg24
  have z4 := Try.sizeOf24
  have hS : Try.prog.underlying 26 = some (.struct (Try.prog.fieldsOf 26)) := by kernel_rfl
  have hp : Try.prog.stoodInHeld 26 = false := by kernel_rfl
  rw [show (10000 : Nat) = 9999 + 1 from rfl, run_equalIn_agg W 9999 26 _ _ hS hp]
  simp only [Program.fieldsOf, Try.underlying26]
  go_simp
theorem flatK_app (a b : List Tk) : flatK (a ++ b) = flatK a ++ flatK b := by simp [flatK]
theorem flatK_len (a : List Tk) : (flatK a).length = a.length * 3 := by
  induction a with
  | nil => rfl
  | cons t ts ih =>
    have hc : flatK (t :: ts) = t.cells ++ flatK ts := by simp [flatK]
    rw [hc, List.length_append, ih, Tk.len, List.length_cons]
    omega
theorem flatK_ones (a : List Tk) : ∀ u ∈ flatK a, u.oneCell' = true := by
  intro u hu
  obtain ⟨t, _, hu⟩ := List.mem_flatMap.1 hu
  exact tk_ones t u hu
/-- The cells where tokens lie. -/
theorem RdK.cells {w : World} {b o : Nat} {ts : List Tk} (h : RdK w (some ⟨b, o, none⟩) ts) : ∀ j u, (flatK ts)[j]? = some u → w.cell? ((⟨b, o, none⟩ : Addr).add j) = some u := by
  intro j u hj
  have hlt : j < ts.length * 3 := by
    rw [← flatK_len]
    rcases Nat.lt_or_ge j (flatK ts).length with h1 | h1
    · exact h1
    · rw [List.getElem?_eq_none h1] at hj; cases hj
  obtain ⟨b', o', e, _, hc⟩ := h (by omega)
  injection e with e
  injection e with e1 e2 _
  subst e1
  subst e2
  have hq : j / 3 < ts.length := by omega
  obtain ⟨c0, c1, c2⟩ := hc (j / 3) hq
  have hg := flatK_get ts (j / 3) (j % 3) hq (by omega)
  rw [show j / 3 * 3 + j % 3 = j by omega, hj] at hg
  rw [addr_add]
  rcases (show j % 3 = 0 ∨ j % 3 = 1 ∨ j % 3 = 2 by omega) with h3 | h3 | h3
  · rw [h3] at hg
    rw [show o + j = o + j / 3 * 3 by omega, c0]
    exact hg.symm
  · rw [h3] at hg
    rw [show o + j = o + j / 3 * 3 + 1 by omega, c1]
    exact hg.symm
  · rw [h3] at hg
    rw [show o + j = o + j / 3 * 3 + 2 by omega, c2]
    exact hg.symm
theorem app_tk (w : World) (base : Nat) (v : Value) (n : Nat) (xs : List Value) (hown : w.ownsRow base 33 3 v n xs) {b o m c : Nat} {ts : List Tk} (hr : RdK w (some ⟨b, o, none⟩) ts) (hm : ts.length = m) (hb : n + m ≤ 4294967296) (hbase : base ≤ w.heap.size) :
    ∃ v' w', (Builtin.append_ #[23, 23] 23 #[v, .slice (some ⟨b, o, none⟩) m c]).run Try.prog w = .ok v' w' ∧ w'.ownsRow base 33 3 v' (n + m) (xs ++ flatK ts) ∧ w.grownBy w' v.ownBlock ∧ (v'.ownBlock = v.ownBlock ∨ v'.ownBlock = some w.heap.size) := by
  obtain ⟨i0, hi0, hz0, hz1, hz2⟩ := info_parts info_tk
  obtain ⟨v', w', h1, h2, h3, _, h5⟩ := run_append_own_at (P := Try.prog) w base 23 23 33 i0 (.agg #[.int .i64 0, .int .i64 0, .string ⟨#[]⟩]) 3 32 Try.underlying23 hi0 hz0 hz1 hz2 rfl (by decide) v n xs hown ⟨b, o, none⟩ m c (flatK ts) (by rw [flatK_len, hm]) hr.cells (flatK_ones ts) (by unfold maxLen; omega) (by omega) hbase
  exact ⟨v', w', h1, h2, h3, h5⟩
theorem below_own {B : Nat} {a b c : World} {e : TypeId} {size : Nat} {v : Value} {n : Nat} {xs : List Value} (h : Below B a b) (hown : b.ownsRow B e size v n xs) (hB : B ≤ b.heap.size) (g : b.grownBy c v.ownBlock) : Below B a c :=
  ⟨g.os.trans h.os, g.tape.trans h.tape, g.output.trans h.output, Nat.le_trans h.size g.size, fun k hk => (g.block k (Nat.lt_of_lt_of_le hk hB) (fun e => by have := (owns_block hown k e.symm).1; omega)).trans (h.block k hk)⟩
theorem wpList_wanted {P : Program} {ops : Array Oper} {Q : Exit → Act → World → Prop} {a : Act} {w : World} {rest : List Oper} {o : Oper} (hw : Region.wanted o (yielded ops a.tmps) = true)
    (h : ∀ K : Act → World → Prop, (∀ a w, wpList P ops Q rest a w → K a w) → o.wp P a w K Q) : wpList P ops Q (o :: rest) a w :=
  wpList_step fun K hK => by simp only [hw, if_true]; exact h K hK
theorem wpList_app_tk {ops : Array Oper} {rest : List Oper} {o : Oper} {a : Act} {w : World} {Q : Exit → Act → World → Prop} (hw : Region.wanted o (yielded ops a.tmps) = true) (s x : Operand)
    (ho : o.op = .call { callee := .builtin .append, args := #[s, x], argTypes := #[23, 23] }) (hty : o.type = 23)
    (base : Nat) (v : Value) (n : Nat) (xs : List Value) (hs : a.eval s = v) (hown : w.ownsRow base 33 3 v n xs) {b o' m c : Nat} {ts : List Tk} (hx : a.eval x = .slice (some ⟨b, o', none⟩) m c) (hr : RdK w (some ⟨b, o', none⟩) ts) (hm : ts.length = m) (hb : n + m ≤ 4294967296) (hbase : base ≤ w.heap.size)
    (h : ∀ v' w', w'.ownsRow base 33 3 v' (n + m) (xs ++ flatK ts) → w.grownBy w' v.ownBlock → wpList Try.prog ops Q rest (a.put o.dst v') w') : wpList Try.prog ops Q (o :: rest) a w := by
  refine wpList_wanted hw fun K hK => ?_
  obtain ⟨v', w', h1, h2, h3, _⟩ := app_tk w base v n xs hown hr (c := c) hm hb hbase
  unfold Oper.wp execOp
  simp only [ho, hty, resolve, invoke, builtin, Sem.run_bind, Sem.run_pure, Result.andThen_ok, List.map_toArray, List.map_cons, List.map_nil, hs, hx, h1]
  exact hK _ _ (h v' w' h2 h3)
/-- What the law holds: three lists of tokens, three faults. -/
structure PrSt (w : World) (L : List (Option Addr × List Tk)) (F : List (Nat × Nat × Nat)) (W : World) : Prop where
  bel : Below w.heap.size w W
  rd : ∀ x ∈ L, RdK W x.1 x.2
  ft : ∀ x ∈ F, Blk W x.1 26 [.int .i64 (x.2.1 : Int), .int .i64 (x.2.2 : Int)]
theorem PrSt.step {w W W' : World} {L : List (Option Addr × List Tk)} {F : List (Nat × Nat × Nat)} (h : PrSt w L F W) (hb : Below W.heap.size W W') : PrSt w L F W' :=
  ⟨h.bel.trans (hb.mono h.bel.size), fun x hx => (h.rd x hx).keep hb, fun x hx => (h.ft x hx).keep hb⟩
theorem PrSt.push {w W W1 : World} {L : List (Option Addr × List Tk)} {F : List (Nat × Nat × Nat)} (h : PrSt w L F W) (hb : Below W.heap.size W W1) {A : Option Addr} {ts : List Tk} (hr : RdK W1 A ts) (c p : Nat) : PrSt w (L ++ [(A, ts)]) (F ++ [(W1.heap.size, c, p)]) (W1.alloc (.cells #[.int .i64 (c : Int), .int .i64 (p : Int)] 26)) := by
  have hal : Below W1.heap.size W1 (W1.alloc (.cells #[.int .i64 (c : Int), .int .i64 (p : Int)] 26)) := (Below.refl _ _).alloc (Nat.le_refl _) _
  have h2 := (h.step hb).step hal
  refine ⟨h2.bel, fun x hx => ?_, fun x hx => ?_⟩
  · rcases List.mem_append.1 hx with hx | hx
    · exact h2.rd x hx
    · simp only [List.mem_cons, List.not_mem_nil, or_false] at hx
      subst hx
      exact hr.keep hal
  · rcases List.mem_append.1 hx with hx | hx
    · exact h2.ft x hx
    · simp only [List.mem_cons, List.not_mem_nil, or_false] at hx
      subst hx
      exact Blk.fresh W1 26 [.int .i64 (c : Int), .int .i64 (p : Int)]
theorem wrap_small {x : Int} (h : 0 ≤ x) (h2 : x < 4611686018427387904) : wrap64 x = x := by unfold wrap64; omega
theorem scan_pos : ∀ (m : Nat) (r : List UInt8) (p n : Nat) (e : Nat × Nat), r.length < m → scanF m r p n = .error e → e.2 ≤ p + r.length
  | 0, _, _, _, _, h, _ => absurd h (by omega)
  | m + 1, r, p, n, e, hm, h => by
    rw [scanF_succ] at h
    have hg := gap_le false r
    by_cases he : r.drop (gap false r) = []
    · rw [he, scanG_end] at h; cases h
    · by_cases hn : n = 8192
      · rw [hn, scanG_full he] at h
        injection h with h; subst h
        show p + gap false r ≤ p + r.length
        omega
      · cases hf : front (r.drop (gap false r)) with
        | error c =>
          rw [scanG_bad he hn hf] at h
          injection h with h; subst h
          show p + gap false r ≤ p + r.length
          omega
        | ok v =>
          obtain ⟨k, x, j⟩ := v
          have hfl := front_len hf
          rw [List.length_drop] at hfl
          rw [scanG_ok he hn hf] at h
          cases hr : scanF m ((r.drop (gap false r)).drop j) (p + gap false r + j) (n + 1) with
          | error e2 =>
            rw [hr] at h
            injection h with h; subst h
            have := scan_pos m _ _ _ _ (by rw [List.length_drop, List.length_drop]; omega) hr
            rw [List.length_drop, List.length_drop] at this
            omega
          | ok us => rw [hr] at h; cases h
theorem scanT_pos {l : List UInt8} {e : Nat × Nat} (h : scanT l = .error e) : e.2 ≤ l.length := by
  unfold scanT at h
  split at h
  · injection h with h; subst h
    exact Nat.zero_le _
  · have := scan_pos _ _ _ _ _ (by omega) h
    omega
set_option maxRecDepth 100000 in
set_option maxHeartbeats 8000000 in
theorem pairs_walk (la lb : List UInt8) (w : World) : Calls Try.prog 6 #[.string ⟨la.toArray⟩, .string ⟨lb.toArray⟩] w fun e w' => e = .returned (.bool true) ∧ Below w.heap.size w w' := by
  have HCu := hid (fun W => cuts_any W)
  have sa : (⟨la.toArray⟩ : ByteArray).size = la.length := by simp [ByteArray.size]
  have sb : (⟨lb.toArray⟩ : ByteArray).size = lb.length := by simp [ByteArray.size]
  by_cases hla : 1500 < la.length
  · have n1 : (1500 : Int) < ((⟨la.toArray⟩ : ByteArray).size : Int) := by rw [sa]; omega
    generalize (⟨la.toArray⟩ : ByteArray) = A at *
    generalize (⟨lb.toArray⟩ : ByteArray) = B at *
    clear sa sb hla
    go_enter Try.func6, Try.ntmps6
    go_wp2_with fail
    refine (HCu.out _).mono ?_
    rintro e w1 ⟨rfl, hb⟩
    have HB := hid hb
    clear hb
    go_wp2_with fail
    go_ret
    exact ⟨rfl, HB.out⟩
  by_cases hlb : 1500 < lb.length
  · have n1 : ¬ (1500 : Int) < ((⟨la.toArray⟩ : ByteArray).size : Int) := by rw [sa]; omega
    have n2 : (1500 : Int) < ((⟨lb.toArray⟩ : ByteArray).size : Int) := by rw [sb]; omega
    generalize (⟨la.toArray⟩ : ByteArray) = A at *
    generalize (⟨lb.toArray⟩ : ByteArray) = B at *
    clear sa sb hla hlb
    go_enter Try.func6, Try.ntmps6
    go_wp2_with fail
    refine (HCu.out _).mono ?_
    rintro e w1 ⟨rfl, hb⟩
    have HB := hid hb
    clear hb
    go_wp2_with fail
    go_ret
    exact ⟨rfl, HB.out⟩
  have n1 : ¬ (1500 : Int) < (la.length : Int) := by omega
  have n2 : ¬ (1500 : Int) < (lb.length : Int) := by omega
  have hla1 : (la.length : Int) ≤ 1500 := by omega
  have HPr := hid (pair_scan la lb (by omega) (by omega))
  have HLa := hid (fun ts (h : scanT la = .ok ts) => scan_ok_len h)
  have HLb := hid (fun ts (h : scanT lb = .ok ts) => scan_ok_len h)
  have HBd := hid (show la.length ≤ 1500 ∧ lb.length ≤ 1500 by omega)
  have s1 := hid (fun W => scan_any ⟨la.toArray⟩ W)
  have s2 := hid (fun W => scan_any ⟨lb.toArray⟩ W)
  have had1 := fun W => run_strAdd la [10] (by simp; omega) W
  have had2 := fun W => run_strAdd (la ++ [10]) lb (by simp; omega) W
  clear hla hlb sa sb
  go_enter Try.func6, Try.ntmps6
  go_wp2_with fail
  refine (HCu.out _).mono ?_
  rintro e w1 ⟨rfl, hb1⟩
  have G0 := hid (show PrSt w [] [] w1 from ⟨hb1, (fun x hx => nomatch hx), (fun x hx => nomatch hx)⟩)
  clear hb1 HCu
  go_wp2_with fail
  refine (s1.out _).mono ?_
  rintro e w2 hp
  obtain ⟨hb2, A1, m1, k1, t1, c1, p1, rfl, hk1, hm1, hr1, hq1⟩ := ScanR.un hp (fun e h => scanT_err h)
  have G1 := hid (G0.out.push hb2 hr1 c1 p1)
  have Q1 := hid hq1
  have M1 := hid hm1
  clear hp hb2 hr1 hq1 hm1 G0 s1 n1 n2
  go_upto_region 6 with (fail)
  generalize w2.alloc (.cells #[.int .i64 (c1 : Int), .int .i64 (p1 : Int)] 26) = w3 at *
  generalize w2.heap.size = g1 at *
  go_wp2_with fail
  refine (s2.out _).mono ?_
  rintro e w4 hp
  obtain ⟨hb4, A2, m2, k2, t2, c2, p2, rfl, hk2, hm2, hr2, hq2⟩ := ScanR.un hp (fun e h => scanT_err h)
  have G2 := hid (G1.out.push hb4 hr2 c2 p2)
  have Q2 := hid hq2
  have M2 := hid hm2
  clear hp hb4 hr2 hq2 hm2 G1 s2
  go_upto_region 7 with (fail)
  generalize w4.alloc (.cells #[.int .i64 (c2 : Int), .int .i64 (p2 : Int)] 26) = w5 at *
  generalize w4.heap.size = g2 at *
  go_wp2_with fail
  refine (scan_any _ _).mono ?_
  rintro e w6 hp
  rw [show ((ByteArray.mk la.toArray) ++ (ByteArray.mk #[10]) ++ (ByteArray.mk lb.toArray)).data.toList = la ++ 10 :: lb by simp] at hp
  obtain ⟨hb6, A3, m3, k3, t3, c3, p3, rfl, hk3, hm3, hr3, hq3⟩ := ScanR.un hp (fun e h => scanT_err h)
  have G3 := hid (G2.out.push hb6 hr3 c3 p3)
  have Q3 := hid hq3
  have M3 := hid hm3
  clear hp hb6 hr3 hq3 hm3 G2 had1 had2
  go_upto_region 8 with (fail)
  generalize w6.alloc (.cells #[.int .i64 (c3 : Int), .int .i64 (p3 : Int)] 26) = w7 at *
  generalize w6.heap.size = g3 at *
  have f1 := G3.out.ft (g1, c1, p1) (by simp)
  have f2 := G3.out.ft (g2, c2, p2) (by simp)
  have f3 := G3.out.ft (g3, c3, p3) (by simp)
  simp only at f1 f2 f3
  obtain ⟨x0, x1⟩ : w7.cell? ⟨g1, 0, none⟩ = some (.int .i64 (c1 : Int)) ∧ w7.cell? ⟨g1, 1, none⟩ = some (.int .i64 (p1 : Int)) := ⟨Blk.at f1 0, Blk.at f1 1⟩
  obtain ⟨y0, y1⟩ : w7.cell? ⟨g2, 0, none⟩ = some (.int .i64 (c2 : Int)) ∧ w7.cell? ⟨g2, 1, none⟩ = some (.int .i64 (p2 : Int)) := ⟨Blk.at f2 0, Blk.at f2 1⟩
  obtain ⟨z0, z1⟩ : w7.cell? ⟨g3, 0, none⟩ = some (.int .i64 (c3 : Int)) ∧ w7.cell? ⟨g3, 1, none⟩ = some (.int .i64 (p3 : Int)) := ⟨Blk.at f3 0, Blk.at f3 1⟩
  clear f1 f2 f3
  have HB := hid G3.out.bel
  rcases Q1.out with ⟨rfl, rfl, o1⟩ | ⟨hc1, o1, _⟩
  rotate_left
  · have o3 : c3 ≠ 0 := by
      have h := HPr.out
      rw [o1] at h
      obtain ⟨e', h⟩ := h
      rcases Q3.out with ⟨_, _, o3⟩ | ⟨h3, _, _⟩
      · rw [h] at o3; cases o3
      · exact h3
    have n1' : ¬ (c1 : Int) = 0 := by omega
    have n3' : ¬ (c3 : Int) = 0 := by omega
    clear Q1 Q2 Q3 HPr hc1 o1 o3
    go_wp2_with fail
    go_ret
    refine ⟨?_, HB.out⟩
    have n4 : ((c3 : Int) != 0) = true := by simpa using n3'
    show Ending.returned (.bool ((c3 : Int) != 0)) = _
    rw [n4]
  rcases Q2.out with ⟨rfl, rfl, o2⟩ | ⟨hc2, o2, _⟩
  rotate_left
  · have o3 : c3 = c2 ∧ p3 = p2 + (la.length + 1) := by
      have h := HPr.out
      rw [o1] at h
      obtain ⟨gs, e, _, h⟩ := h
      rw [o2] at h
      rcases Q3.out with ⟨_, _, o3⟩ | ⟨_, o3, _⟩
      · rw [h] at o3; cases o3
      · rw [h] at o3
        injection o3 with o3
        injection o3 with h1 h2
        exact ⟨h1.symm, h2.symm⟩
    have n2' : ¬ (c2 : Int) = 0 := by omega
    have hp2 : p2 ≤ 1500 := Nat.le_trans (scanT_pos o2) HBd.out.2
    have z0' : w7.cell? ⟨g3, 0, none⟩ = some (.int .i64 (c2 : Int)) := by rw [z0, o3.1]
    have z1' : w7.cell? ⟨g3, 1, none⟩ = some (.int .i64 ((p2 : Int) + (la.length : Int) + 1)) := by
      rw [z1, o3.2]
      congr 2 <;> omega
    have hp2' : (p2 : Int) ≤ 1500 := by omega
    have hq := fun W => run_fte (c2 : Int) ((p2 : Int) + (la.length : Int) + 1) W
    clear Q1 Q2 Q3 HPr hc2 o1 o2 o3 z0 z1
    go_wp2_with fail
    go_ret
    exact ⟨rfl, HB.out⟩
  have o3 : c3 = 0 ∧ ∃ gs e, t1 = gs ++ [e] ∧ Alike t3 (gs ++ t2) := by
    have h := HPr.out
    rw [o1] at h
    obtain ⟨gs, e, k1, h⟩ := h
    rw [o2] at h
    obtain ⟨vs, h, h2⟩ := h
    rcases Q3.out with ⟨h3, _, o3⟩ | ⟨_, o3, _⟩
    · rw [h] at o3
      injection o3 with o3
      subst o3
      exact ⟨h3, gs, e, k1, h2⟩
    · rw [h] at o3; cases o3
  obtain ⟨rfl, gs, e, ht1, hal⟩ := o3
  have hl1 := HLa.out _ o1
  have hl2 := HLb.out _ o2
  obtain ⟨hb1, hb2⟩ := HBd.out
  have hm1 : m1 = gs.length + 1 := by rw [M1.out, ht1]; simp
  have hm2 : m2 = t2.length := M2.out
  have hm3 : m3 = gs.length + t2.length := by rw [M3.out, hal.len]; simp
  have hR1 : RdK w7 A1 gs := by
    have h := G3.out.rd (A1, t1) (by simp)
    have h2 := RdK.take h gs.length
    rw [show t1.take gs.length = gs by rw [ht1]; simp] at h2
    exact h2
  have hR2 : RdK w7 A2 t2 := G3.out.rd (A2, t2) (by simp)
  have hR3 : RdK w7 A3 t3 := G3.out.rd (A3, t3) (by simp)
  have hA1 : ∃ b o, A1 = some ⟨b, o, none⟩ := by
    obtain ⟨b, o, h, _⟩ := G3.out.rd (A1, t1) (by simp) (by show 0 < t1.length; rw [ht1]; simp)
    exact ⟨b, o, h⟩
  have ht2 : 0 < t2.length := by
    obtain ⟨gs2, e2, h, _⟩ := chain_split t2 0 (chain_scan o2)
    rw [h]; simp
  have hA2 : ∃ b o, A2 = some ⟨b, o, none⟩ := by
    obtain ⟨b, o, h, _⟩ := hR2 ht2
    exact ⟨b, o, h⟩
  obtain ⟨b1, o1', rfl⟩ := hA1
  obtain ⟨b2, o2', rfl⟩ := hA2
  rw [ht1] at hl1
  simp only [List.length_append, List.length_cons, List.length_nil] at hl1
  have HAl := hid hal
  have HG := hid G3.out
  have HM := hid (And.intro hm1 (And.intro hm2 hm3))
  have HL := hid (And.intro hl1 (And.intro hl2 (And.intro hb1 hb2)))
  have HRs := hid (And.intro hR1 (And.intro hR2 hR3))
  clear hal hm1 hm2 hm3 hl1 hl2 hb1 hb2 hR1 hR2 hR3 ht2 ht1 o1 o2 Q1 Q2 Q3 HPr HLa HLb M1 M2 M3 G3
  have q1 : (m1 : Int) ≤ 1502 := by have := HM.out.1; have := HL.out.1; have := HL.out.2.2.1; omega
  have q2 : (1 : Int) ≤ (m1 : Int) := by have := HM.out.1; omega
  have q3 : (m1 : Int) - 1 ≤ (k1 : Int) := by omega
  have hba : Below w7.heap.size w7 (w7.alloc (.cells #[] 33)) := (Below.refl _ _).alloc (Nat.le_refl _) _
  have HG8 := hid (HG.out.step hba)
  have HRs8 := hid (And.intro (HRs.out.1.keep hba) (And.intro (HRs.out.2.1.keep hba) (HRs.out.2.2.keep hba)))
  have HOwn := hid (show (w7.alloc (.cells #[] 33)).ownsRow w7.heap.size 33 3 (.slice (some ⟨w7.heap.size, 0, none⟩) 0 0) 0 [] from ⟨rfl, .inr ⟨w7.heap.size, 0, #[], rfl, Nat.le_refl _, heap_alloc_new w7 _, Nat.le_refl _, by simp [maxLen], rfl, rfl⟩⟩)
  have hsz8 : w7.heap.size ≤ (w7.alloc (.cells #[] 33)).heap.size := hba.size
  have HBA := hid hba
  have HSm := hid (fun W v k (h1 : RdK W A3 t3) (h2 : RdK W v (gs ++ t2)) => same_tokens (ca := k3) (cb := k) (n := m3) h1 h2 HAl.out (by rw [HAl.out.len, HM.out.2.2, List.length_append]) (by have := HM.out.2.2; have := HL.out.1; have := HL.out.2.1; have := HL.out.2.2.1; have := HL.out.2.2.2; omega))
  have HE := hid (show (m1 - 1) + m2 = m3 ∧ m3 = (gs ++ t2).length ∧ m3 ≤ 4000 by
    have h1 := HM.out.1
    have h2 := HM.out.2.1
    have h3 := HM.out.2.2
    have h4 := HL.out.1
    have h5 := HL.out.2.1
    have h6 := HL.out.2.2.1
    have h7 := HL.out.2.2.2
    rw [List.length_append]
    omega)
  clear hba HG8
  go_upto_region 12 with (fail)
  go_wp2_with (first
    | (refine wpList_app_tk (by rfl) _ _ rfl rfl w7.heap.size _ 0 [] rfl HOwn.out rfl HRs8.out.1 (by have := HM.out.1; omega) (by omega) hsz8 ?_; intro v9 w9 hown9 hgr9; have HB9 := hid (below_own HBA.out HOwn.out hsz8 hgr9); have HR9 := hid (HRs.out.2.1.keep HB9.out); rw [Nat.zero_add, List.nil_append] at hown9; obtain ⟨A9, k9, hv9⟩ := owns_shape hown9; subst hv9; have HOwn9 := hid hown9; have hsz9 := HB9.out.size; clear hown9 hgr9 HOwn HRs8 hsz8 HBA)
    | (refine wpList_app_tk (by rfl) _ _ rfl rfl w7.heap.size _ _ _ rfl HOwn9.out rfl HR9.out HM.out.2.1.symm (by have := HE.out.1; have := HE.out.2.2; omega) hsz9 ?_; intro v10 w10 hown10 hgr10; have HB10 := hid (below_own HB9.out HOwn9.out hsz9 hgr10); rw [HE.out.1, ← flatK_app] at hown10; obtain ⟨A10, k10, hv10⟩ := owns_shape hown10; subst hv10; have HR10 := hid (RdK.of_own hown10 HE.out.2.1); clear hown10 hgr10 HB9 HOwn9 HR9)
    | (go_at_call 12; refine (HSm.out _ A10 k10 (HRs.out.2.2.keep HB10.out) HR10.out).mono ?_; rintro e w11 ⟨rfl, hb11⟩; have HB11 := hid ((HG.out.step HB10.out).step hb11); clear hb11))
  go_ret
  exact ⟨rfl, HB11.out.bel⟩
theorem pairs_law (a b : ByteArray) (w : World) : Calls Try.prog 6 #[.string a, .string b] w fun e w' => e = .returned (.bool true) ∧ Below w.heap.size w w' := by
  have h := pairs_walk a.data.toList b.data.toList w
  have ea : (⟨a.data.toList.toArray⟩ : ByteArray) = a := by cases a; rfl
  have eb : (⟨b.data.toList.toArray⟩ : ByteArray) = b := by cases b; rfl
  rw [ea, eb] at h
  exact h
end Go.Proofs.Ytmefllfmcjjbaaa
