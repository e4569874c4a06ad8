/- regex: the reference: cat. -/
import Derived.Test.YtplldfbjbekdlaaDoorRqF
import Derived.Test.YtplldfbjbekdlaaDoorRqD
namespace Go.Proofs.YtplldfbjbekdlaaDoor
open Go.RowKit
set_option linter.unusedVariables false
set_option linter.unusedSimpArgs false

/-- What a piece's call answers. -/
def PcAt (R : List UInt8 → Option RT) : Prop := ∀ (s : ByteArray) (t : RT) (w : World), s.size ≤ 1000 → pcP R s.data.toList = some t → Calls Tryd.prog 22 #[.string s] w (RefP t w)
/-- What cat's loop holds. -/
structure CaS (w : World) (u : Value) (ks : List RT) (W : World) : Prop where
  bel : Below w.heap.size w W
  res : Blk W w.heap.size 27 zeroR.toList
  kids : Kids W (w.heap.size + 1) u ks
theorem CaS.below {w W W' : World} {u : Value} {ks : List RT} (h : CaS w u ks W) (hb : Below W.heap.size W W') : CaS w u ks W' := ⟨h.bel.trans (hb.mono h.bel.size), h.res.keep hb, h.kids.below hb⟩
theorem CaS.snoc {w w5 w6 w7 : World} {u u' : Value} {ks : List RT} {x : RV} {t : RT} (h : CaS w u ks w5) (h6 : Below w5.heap.size w5 w6) (vs : List RV) (h1 : vs.length = ks.length)
    (h3 : ∀ j (h1 : j < vs.length) (h2 : j < ks.length), Rep w5 (fun b => w.heap.size + 1 ≤ b ∧ u.ownBlock ≠ some b) vs[j] ks[j]) (hx : Rep w5 (fun b => w.heap.size + 1 ≤ b ∧ u.ownBlock ≠ some b) x t)
    (hown : w7.ownsRow (w.heap.size + 1) 27 8 u' (ks.length + 1) (flatR vs ++ x.cells)) (hg : w6.grownBy w7 u.ownBlock) (hv : u'.ownBlock = u.ownBlock ∨ u'.ownBlock = some w6.heap.size) : CaS w u' (ks ++ [t]) w7 := by
  have h56 := h.below h6
  have hge := h.kids.own_lt
  refine ⟨⟨hg.os.trans h56.bel.os, hg.tape.trans h56.bel.tape, hg.output.trans h56.bel.output, Nat.le_trans h56.bel.size hg.size, fun k hk => ?_⟩, ?_, Kids.snoc vs h1 h3 hx (fun b hb => h6.block b hb) h6.size hown hg hv⟩
  · have hk6 : k < w6.heap.size := Nat.lt_of_lt_of_le hk h56.bel.size
    exact (hg.block k hk6 (fun e => by have := hge k e.symm; omega)).trans (h56.bel.block k hk)
  · exact (hg.block _ h56.res.lt (fun e => by have := hge _ e.symm; omega)).trans h56.res
/-- What the loop of counts holds: the expression so far in its box. -/
structure CtS (W0 : World) (B : Nat) (v : RV) (t : RT) (W : World) : Prop where
  bel : Below W0.heap.size W0 W
  hB : W0.heap.size ≤ B
  box : Blk W B 27 v.cells
  rep : Rep W (fun b => W0.heap.size ≤ b ∧ b ≠ B) v t
theorem CtS.new {W0 W1 : World} {v : RV} {t : RT} (hb : Below W0.heap.size W0 W1) (h : Rep W1 (W0.heap.size ≤ ·) v t) (cs : Array Value) : CtS W0 W1.heap.size v t ((W1.alloc (.cells cs 27)).setRow W1.heap.size v.cells.toArray) := by
  have h1 : Below W1.heap.size W1 (W1.alloc (.cells cs 27)) := (Below.refl _ _).alloc (Nat.le_refl _) _
  have h2 := below_row h1 (Nat.le_refl _) v.cells.toArray
  exact ⟨hb.trans (h2.mono hb.size), hb.size, setRow_heap _ _ _ _ _ (0, 0) (heap_alloc_new W1 _), h.mono h2.size (fun b _ hl => h2.block b hl) (fun b hp hl => ⟨hp, by omega⟩)⟩
theorem CtS.kid {W0 W : World} {B : Nat} {v : RV} {t : RT} (h : CtS W0 B v t W) (lo hi : Int) : CtS W0 B ⟨5, 0#256, some ⟨W.heap.size, 0, none⟩, 1, 1, lo, hi⟩ (.nd 5 (0#256) [t] lo hi) ((W.alloc (.cells v.cells.toArray 27)).setRow B (RV.mk 5 (0#256) (some ⟨W.heap.size, 0, none⟩) 1 1 lo hi).cells.toArray) := by
  have h1 : Below W.heap.size W (W.alloc (.cells v.cells.toArray 27)) := (Below.refl _ _).alloc (Nat.le_refl _) _
  have hlt := h.box.lt
  have hsz := h.bel.size
  refine ⟨below_row (h.bel.trans (h1.mono hsz)) h.hB _, h.hB, setRow_heap _ _ _ _ _ (0, 0) (h.box.keep h1), ?_⟩
  have hr : Rep (W.alloc (.cells v.cells.toArray 27)) (fun b => W0.heap.size ≤ b ∧ b ≠ B) ⟨5, 0#256, some ⟨W.heap.size, 0, none⟩, 1, 1, lo, hi⟩ (.nd 5 (0#256) [t] lo hi) := by
    refine .mk ⟨5, 0#256, some ⟨W.heap.size, 0, none⟩, 1, 1, lo, hi⟩ [t] (fun _ => v) rfl (fun _ => ⟨W.heap.size, 0, rfl, by simp, ⟨hsz, by omega⟩, fun j hj => ?_⟩) (fun j hj => ?_)
    · obtain rfl : j = 0 := by simp at hj; omega
      exact Blk.row (Blk.fresh W 27 v.cells)
    · obtain rfl : j = 0 := by simp at hj; omega
      exact h.rep.mono h1.size (fun b _ hl => h1.block b hl) (fun _ h _ => h)
  exact hr.mono (by simp [World.setRow]) (fun b hp _ => setRow_other _ _ _ _ hp.2) (fun _ h _ => h)
theorem ctL_le : ∀ (k : Nat) (s : List UInt8) (t : RT) (T : RT) (s' : List UInt8), ctL k s t = some (T, s') → s'.length ≤ s.length
  | 0, _, _, _, _, h => by cases h
  | k + 1, s, t, T, s', h => by
    unfold ctL at h
    split at h
    · cases h
    · rename_i n _
      split at h
      · injection h with h; injection h with h1 h2; subst h2; exact Nat.le_refl _
      · split at h
        · cases h
        · have := ctL_le k _ _ _ _ h
          rw [List.length_drop] at this
          omega
theorem caT_many (t1 t2 : RT) (ks : List RT) : catT (t1 :: t2 :: ks) = .nd 3 (0#256) (t1 :: t2 :: ks) 0 0 := rfl
set_option maxRecDepth 100000 in
set_option maxHeartbeats 8000000 in
theorem rCat_any {R : List UInt8 → Option RT} (HPc : PcAt R) (d : Nat) (s : ByteArray) (T : RT) (w : World) (hs : s.size ≤ 1000) (h : caP R d s.data.toList = some T) :
    Calls Tryd.prog 15 #[.string s] w (RefP T w) := by
  have HSk := hid (fun (W : World) (t : ByteArray) (n : Nat) (ht : t.size ≤ 1000) (hn : skP d t.data.toList = some n) => rSkip_any d t n W ht hn)
  have HCn := hid (fun (W : World) (t : ByteArray) (n : Nat) (ht : t.size ≤ 1000) (hn : cnP t.data.toList = some n) => rCnt_any t n W ht hn)
  have HOf := hid (fun (W : World) (t : ByteArray) (lo : Nat) (hi : Int) (ht : t.size ≤ 1000) (hn : oftP t.data.toList = some (lo, hi)) => rOft_any t lo hi W ht hn)
  have HPh := hid HPc
  unfold caP at h
  cases hK : caL R d (s.data.toList.length + 1) s.data.toList [] with
  | none => rw [hK] at h; cases h
  | some K =>
    rw [hK] at h
    simp only [Option.map_some, Option.some.injEq] at h
    subst h
    have H := hid hK
    have hA : Below w.heap.size w (w.alloc (.cells zeroR 27)) := (Below.refl _ _).alloc (Nat.le_refl _) _
    have HS := hid (show CaS w (.slice none 0 0) [] (w.alloc (.cells zeroR 27)) from ⟨hA, heap_alloc_new w (.cells zeroR 27), Kids.nil _ _⟩)
    clear hK hA HPc
    go_enter Tryd.func15, Tryd.ntmps15
    go_upto_region 1 with (fail)
    change Code.wp _ _ _ _ (w.alloc (.cells zeroR 27))
    generalize w.alloc (.cells zeroR 27) = w1 at *
    go_wp2_with fail
    go_loopg [0, 3] (s.data.toList.length + 1) (fun k v u wr => ∃ (t : ByteArray) (ks : List RT), ks.length + t.size ≤ 1000 ∧ v = .string t ∧ Hid (caL R d k t.data.toList ks = some K) ∧ Hid (CaS w u ks wr))
    case atStart => exact ⟨s, [], by simpa using hs, rfl, H, HS⟩
    case round =>
      clear H HS
      obtain ⟨t, ks, hkt, rfl, H, HS⟩ := hrel
      obtain ⟨k, rfl⟩ : ∃ k, gk = k + 1 := by
        cases gk with
        | zero => exact absurd H.out (by unfold caL; intro q; cases q)
        | succ k => exact ⟨k, rfl⟩
      have h := H.out
      clear H
      have htz : t.data.toList.length = t.size := rfl
      have ht : t.size ≤ 1000 := by omega
      obtain ⟨A, cp, rfl⟩ := HS.out.kids.shape
      unfold caL at h
      split at h
      · rename_i hz
        rw [htz] at hz
        injection h with h
        subst h
        have n9 : ¬ (0 : Int) < (t.size : Int) := by omega
        have HRs := hid HS.out.res
        have HBel := hid HS.out.bel
        have hrs : wr.heap[w.heap.size]? = some (.cells zeroR 27) := HS.out.res
        rcases ks with _ | ⟨t1, _ | ⟨t2, ks⟩⟩
        · have HV2 : Hid (Value.agg #[.int .i64 1, .int .u64 0, .int .u64 0, .int .u64 0, .int .u64 0, .slice none 0 0, .int .i64 0, .int .i64 0] = .agg (RV.mk 1 (0#256) none 0 0 0 0).cells.toArray) := hid (by simp [RV.cells, wd_zero])
          have HREP := hid (show Rep (wr.setRow w.heap.size (RV.mk 1 (0#256) none 0 0 0 0).cells.toArray) (w.heap.size ≤ ·) (RV.mk 1 (0#256) none 0 0 0 0) (catT []) from Rep.leaf _ _ 1 (0#256) 0 0 0 none)
          clear HS HSk HCn HOf HPh hz htz hrs
          go_wp2_with (refine wpList_store_row rfl 27 _ _ rfl w.heap.size ((RV.mk 1 (0#256) none 0 0 0 0).cells.toArray) ?_ ?_ 27 zeroR HRs.out (rx_size _) ?_ (rx_one _) ?_; exact rfl; exact HV2.out; exact rfl)
          exact bodyPost_ret (v := .agg ((RV.mk 1 (0#256) none 0 0 0 0).cells.toArray)) (results_cell_row (P := Tryd.prog) (fn := Tryd.f15) rfl _ _ w.heap.size 27 _ (0, 0) _ rfl (setRow_heap _ _ _ _ _ (0, 0) HRs.out) Tryd.underlying27 rfl (rx_size _)) rfl ⟨below_row HBel.out (Nat.le_refl _) _, _, rfl, HREP.out⟩
        · obtain ⟨g0, x0, hA1, rfl, hrow, hrep⟩ := HS.out.kids.one
          have HREP := hid (show Rep (wr.setRow w.heap.size x0.cells.toArray) (w.heap.size ≤ ·) x0 (catT [t1]) from (hrep).mono (by simp [World.setRow]) (fun b hp _ => setRow_other _ _ _ _ (by have : w.heap.size + 1 ≤ b := hp; omega)) (fun b h _ => by have : w.heap.size + 1 ≤ b := h; omega))
          obtain ⟨k0, k1, k2, k3, k4, k5, k6, k7⟩ := hrow.cells8
          clear HS HSk HCn HOf HPh hz htz hrs hrep hrow
          go_wp2_with (refine wpList_store_row rfl 27 _ _ rfl w.heap.size (x0.cells.toArray) ?_ ?_ 27 zeroR HRs.out (rx_size _) ?_ (rx_one _) ?_; exact rfl; exact rfl; exact rfl)
          exact bodyPost_ret (v := .agg (x0.cells.toArray)) (results_cell_row (P := Tryd.prog) (fn := Tryd.f15) rfl _ _ w.heap.size 27 _ (0, 0) _ rfl (setRow_heap _ _ _ _ _ (0, 0) HRs.out) Tryd.underlying27 rfl (rx_size _)) rfl ⟨below_row HBel.out (Nat.le_refl _) _, _, rfl, HREP.out⟩
        · have hlen : (t1 :: t2 :: ks).length = ks.length + 1 + 1 := rfl
          rw [hlen] at hkt ⊢
          have HREP := hid (show Rep (wr.setRow w.heap.size (RV.many 3 A (ks.length + 1 + 1) cp).cells.toArray) (w.heap.size ≤ ·) (RV.many 3 A (ks.length + 1 + 1) cp) (catT (t1 :: t2 :: ks)) from (HS.out.kids.rep 3 (0#256) 0 0).mono (by simp [World.setRow]) (fun b hp _ => setRow_other _ _ _ _ (by have : w.heap.size + 1 ≤ b := hp; omega)) (fun b h _ => by have : w.heap.size + 1 ≤ b := h; omega))
          have HV2 := hid ((many_val 3 A (ks.length + 1 + 1) cp).symm)
          rw [RV.val_eq] at HV2
          have n1 : ¬ ((ks.length + 1 + 1 : Nat) : Int) = 0 := by omega
          have n2 : ¬ ((ks.length + 1 + 1 : Nat) : Int) = 1 := by omega
          clear HS HSk HCn HOf HPh hz htz hrs hlen
          go_wp2_with (refine wpList_store_row rfl 27 _ _ rfl w.heap.size ((RV.many 3 A (ks.length + 1 + 1) cp).cells.toArray) ?_ ?_ 27 zeroR HRs.out (rx_size _) ?_ (rx_one _) ?_; exact rfl; exact HV2.out; exact rfl)
          exact bodyPost_ret (v := .agg ((RV.many 3 A (ks.length + 1 + 1) cp).cells.toArray)) (results_cell_row (P := Tryd.prog) (fn := Tryd.f15) rfl _ _ w.heap.size 27 _ (0, 0) _ rfl (setRow_heap _ _ _ _ _ (0, 0) HRs.out) Tryd.underlying27 rfl (rx_size _)) rfl ⟨below_row HBel.out (Nat.le_refl _) _, _, rfl, HREP.out⟩
      · rename_i hz
        rw [htz] at hz
        have p1 : (0 : Int) < (t.size : Int) := by omega
        cases hk : skP d t.data.toList with
        | none => rw [hk] at h; cases h
        | some n =>
          rw [hk] at h
          simp only at h
          have hn := skP_le _ _ _ hk
          rw [htz] at hn
          cases hf : pcP R (t.data.toList.take n) with
          | none => rw [hf] at h; cases h
          | some T0 =>
            rw [hf] at h
            simp only at h
            cases hct : ctL (t.data.toList.length + 1) (t.data.toList.drop n) T0 with
            | none => rw [hct] at h; cases h
            | some y =>
              obtain ⟨T1, s1⟩ := y
              rw [hct] at h
              simp only at h
              have HL := hid h
              have HK1 := hid (fun W => HSk.out W t n ht hk)
              have hez : (t.extract 0 n).size = n := by
                have := ext_list t 0 n
                have h2 : (t.extract 0 n).data.toList.length = (t.extract 0 n).size := rfl
                rw [← h2, this]
                simp
                omega
              have HP1 := hid (fun W => HPh.out (t.extract 0 n) T0 W (by omega) (by rw [ext_front]; exact hf))
              have bn : (n : Int) ≤ (t.size : Int) := by omega
              have hrl := ext_drop t n
              have hrs := ext_siz t n
              rw [← hrl] at hct
              generalize hrr : t.extract n t.size = r at *
              have HCT := hid hct
              have hb1 : ks.length + 1 + r.size ≤ 1000 := by omega
              generalize t.data.toList.length + 1 = fu at *
              clear h hk hf hct hz hrl hrs hn ht htz hez hkt
              go_wp2_with fail
              refine (HK1.out _).mono ?_
              rintro e w5 ⟨rfl, hw⟩
              obtain rfl := hw.symm
              go_wp2_with fail
              refine (HP1.out _).mono ?_
              rintro e w6 ⟨hb6, v, rfl, hrep⟩
              have HN := hid (CtS.new hb6 hrep #[.int .i64 0, .int .u64 0, .int .u64 0, .int .u64 0, .int .u64 0, .slice none 0 0, .int .i64 0, .int .i64 0])
              have HSz := hid (rx_size v)
              have HOne := hid (rx_one v)
              clear hb6 hrep HK1 HP1 hw HSk HPh p1
              go_wp2_with (refine wpList_store_row rfl 27 _ _ rfl w6.heap.size (v.cells.toArray) ?_ ?_ 27 #[.int .i64 0, .int .u64 0, .int .u64 0, .int .u64 0, .int .u64 0, .slice none 0 0, .int .i64 0, .int .i64 0] (heap_alloc_new w6 _) HSz.out ?_ HOne.out ?_; exact rfl; exact rfl; exact rfl; generalize (w6.alloc (.cells #[.int .i64 0, .int .u64 0, .int .u64 0, .int .u64 0, .int .u64 0, .slice none 0 0, .int .i64 0, .int .i64 0] 27)).setRow w6.heap.size v.cells.toArray = w7 at *)
              generalize w6.heap.size = B at *
              clear HSz HOne
              obtain ⟨wa, hwa⟩ : ∃ wa, wr = wa := ⟨_, rfl⟩
              rw [hwa] at HN HS
              clear hwa
              go_loopg [0] fu (fun m z wq => ∃ (r' : ByteArray) (v : RV) (T' : RT), ks.length + 1 + r'.size ≤ 1000 ∧ z = .string r' ∧ Hid (ctL m r'.data.toList T' = some (T1, s1)) ∧ Hid (CtS wa B v T' wq))
              case atStart => exact ⟨r, v, T0, hb1, rfl, HCT, HN⟩
              case round =>
                clear HCT HN hb1
                obtain ⟨r', v, T', hb2, rfl, HC, HT⟩ := hrel
                obtain ⟨m, rfl⟩ : ∃ m, gk = m + 1 := by
                  cases gk with
                  | zero => exact absurd HC.out (by unfold ctL; intro q; cases q)
                  | succ m => exact ⟨m, rfl⟩
                have h := HC.out
                clear HC
                unfold ctL at h
                have hrz : r'.data.toList.length = r'.size := rfl
                obtain ⟨x0, x1, x2, x3, x4, x5, x6, x7⟩ := Blk.cells8' HT.out.box
                obtain ⟨i0, hi0, hz0, hz1, hz2⟩ := info_parts info_rx
                cases hc : cnP r'.data.toList with
                | none => rw [hc] at h; cases h
                | some q =>
                  rw [hc] at h
                  simp only at h
                  have hq := cnP_le hc
                  rw [hrz] at hq
                  have HQ := hid (fun W => HCn.out W r' q (by omega) hc)
                  by_cases hq0 : q = 0
                  · rw [if_pos hq0] at h
                    subst hq0
                    injection h with h
                    injection h with h1 h2
                    subst h1
                    subst h2
                    have HS5 := hid (HS.out.below HT.out.bel)
                    have HREP5 := hid (show Rep wr (fun b => w.heap.size + 1 ≤ b ∧ (Value.slice A ks.length cp).ownBlock ≠ some b) v T' from HT.out.rep.mono (Nat.le_refl _) (fun _ _ _ => rfl) (fun b hp hl => ⟨by have h1 := HS.out.bel.size; have h2 := HS.out.res.lt; have h3 : wa.heap.size ≤ b := hp.1; omega, fun e => by have h1 := HS.out.kids.own_lt b e; have h3 : wa.heap.size ≤ b := hp.1; omega⟩))
                    obtain ⟨vs, hv1, hv2, hv3⟩ := HS5.out.kids.out
                    have H6 := hid (show Below wr.heap.size wr (wr.alloc (.cells v.cells.toArray 27)) from (Below.refl _ _).alloc (Nat.le_refl _) _)
                    have HOwn := hid (hv2.alloc (.cells v.cells.toArray 27))
                    have HV3 := hid hv3
                    have HV1 := hid hv1
                    have HC := hid (new_cells wr v)
                    have hbz := HS5.out.res.lt
                    have hkk : ks.length + 1 ≤ 1001 := by omega
                    clear hv1 hv2 hv3 hc hrz HT HS HCn HOf
                    go_wp2_with fail
                    refine (HQ.out _).mono ?_
                    rintro e w8 ⟨rfl, hw⟩
                    obtain rfl := hw.symm
                    clear hw HQ
                    go_wp2_with (refine wpList_append_own_at _ rfl _ _ 25 rfl (w.heap.size + 1) 27 i0 (.agg zeroR) 8 80 Tryd.underlying25 hi0 hz0 hz1 hz2 rfl (by decide) _ _ _ rfl HOwn.out ⟨wr.heap.size, 0, none⟩ 1 1 v.cells rfl rfl HC.out (rx_ones v) (by unfold maxLen; omega) (by omega) (by simp; omega) ?_; intro u7 w7 hown7 hgrow7 _ hblk7; have HS7 := hid (HS5.out.snoc H6.out vs HV1.out HV3.out HREP5.out hown7 hgrow7 hblk7); clear hown7 hgrow7 hblk7 x0 x1 x2 x3 x4 x5 x6 x7)
                    go_roundg k
                    case measure => omega
                    case rel => exact ⟨r', ks ++ [T'], by simp; omega, rfl, HL, HS7⟩
                  · rw [if_neg hq0] at h
                    cases ho : oftP (r'.data.toList.take q) with
                    | none => rw [ho] at h; cases h
                    | some y =>
                      obtain ⟨lo, hi⟩ := y
                      rw [ho] at h
                      simp only at h
                      have hez : (r'.extract 0 q).size ≤ 1000 := by
                        have := ext_list r' 0 q
                        have h2 : (r'.extract 0 q).data.toList.length = (r'.extract 0 q).size := rfl
                        rw [← h2, this]
                        simp
                        omega
                      have HO := hid (fun W => HOf.out W (r'.extract 0 q) lo hi hez (by rw [ext_front]; exact ho))
                      have hrl := ext_drop r' q
                      have hrs := ext_siz r' q
                      rw [← hrl] at h
                      have HH := hid h
                      have hb3 : ks.length + 1 + (r'.extract q r'.size).size ≤ 1000 := by omega
                      have pq : (0 : Int) < (q : Int) := by omega
                      have bq : (q : Int) ≤ (r'.size : Int) := by omega
                      have HT2 := hid (HT.out.kid (lo : Int) hi)
                      have HV2 : Hid (Value.agg #[.int .i64 5, .int .u64 0, .int .u64 0, .int .u64 0, .int .u64 0, .slice (some ⟨wr.heap.size, 0, none⟩) 1 1, .int .i64 (lo : Int), .int .i64 hi] = .agg (RV.mk 5 (0#256) (some ⟨wr.heap.size, 0, none⟩) 1 1 (lo : Int) hi).cells.toArray) := hid (by simp [RV.cells, wd_zero])
                      have HBx := hid (show (wr.alloc (.cells v.cells.toArray 27)).heap[B]? = some (.cells v.cells.toArray 27) from Blk.keep HT.out.box ((Below.refl _ _).alloc (Nat.le_refl _) _))
                      clear hc ho h hrl hrs hez hrz hq hq0 HT HS HL HCn HOf hi0 hz0 hz1 hz2 hb2
                      generalize hr2 : r'.extract q r'.size = r2 at *
                      go_wp2_with (first
                        | (go_at_call 23; refine (HQ.out _).mono ?_; rintro e w8 ⟨rfl, hw⟩; obtain rfl := hw.symm; clear hw)
                        | (go_at_call 24; refine (HO.out _).mono ?_; rintro e w8 ⟨rfl, hw⟩; obtain rfl := hw.symm; clear hw)
                        | (refine wpList_store_row rfl 27 _ _ rfl B ((RV.mk 5 (0#256) (some ⟨wr.heap.size, 0, none⟩) 1 1 (lo : Int) hi).cells.toArray) ?_ ?_ 27 _ HBx.out (rx_size _) ?_ (rx_one _) ?_; exact rfl; exact HV2.out; exact rfl))
                      go_roundg m
                      case measure => omega
                      case rel => exact ⟨r2, _, _, hb3, rfl, HH, HT2⟩
end Go.Proofs.YtplldfbjbekdlaaDoor

/- regex: the reference: piece: a set. -/
namespace Go.Proofs.YtplldfbjbekdlaaDoor
open Go.RowKit
set_option linter.unusedVariables false
set_option linter.unusedSimpArgs false

set_option maxRecDepth 100000 in
set_option maxHeartbeats 8000000 in
theorem pi_set (s : ByteArray) (q : BS) (hs : s.size ≤ 1000) (h0 : 2 ≤ s.size) (hc : nx s.data.toList 0 = 91) (hq : seP ((s.data.toList.drop 1).take (s.data.toList.length - 2)) = some q) (w : World) :
    Calls Tryd.prog 22 #[.string s] w (RefP (.nd 2 q [] 0 0) w) := by
  have e0 := nx_str (show 0 < s.size by omega)
  rw [hc] at e0
  have hlen : s.data.toList.length = s.size := rfl
  have p0 : 0 < s.size := by omega
  have b0 : (0 : Int) ≤ (s.size : Int) - 1 := by omega
  have b1 : (1 : Int) ≤ (s.size : Int) - 1 := by omega
  have b2 : (s.size : Int) - 1 ≤ (s.size : Int) := by omega
  have b3 : ((s.size : Int) - 1).toNat = s.size - 1 := by omega
  have hx : (s.extract 1 (s.size - 1)).data.toList = (s.data.toList.drop 1).take (s.data.toList.length - 2) := by rw [ext_list, hlen, show s.size - 1 - 1 = s.size - 2 by omega]
  have hxs : (s.extract 1 (s.size - 1)).size ≤ 1000 := by
    have h : (s.extract 1 (s.size - 1)).data.toList.length = (s.extract 1 (s.size - 1)).size := rfl
    rw [← h, hx, List.length_take, List.length_drop, hlen]
    omega
  have HAl := hid (fun W => rSet_any (s.extract 1 (s.size - 1)) q W hxs (by rw [hx]; exact hq))
  unfold setV at HAl
  have hw1 : IntKind.i64.wrap ((s.size : Int) - 1) = ((s.size - 1 : Nat) : Int) := by rw [IntKind.wrap_i64]; omega
  generalize hs1 : s.extract 1 (s.size - 1) = s1 at *
  have hz := heap_alloc_new w (.cells #[.int .i64 0, .int .u64 0, .int .u64 0, .int .u64 0, .int .u64 0, .slice none 0 0, .int .i64 0, .int .i64 0] 27)
  have HZ := hid hz
  have HB := hid ((Below.refl w.heap.size w).alloc (Nat.le_refl _) (.cells #[.int .i64 0, .int .u64 0, .int .u64 0, .int .u64 0, .int .u64 0, .slice none 0 0, .int .i64 0, .int .i64 0] 27))
  clear hz hc hx hxs hq hlen
  go_enter Tryd.func22, Tryd.ntmps22
  go_wp2_with fail
  refine (HAl.out _).mono ?_
  rintro e w1 ⟨rfl, hb1⟩
  have HB1 := hid (HB.out.trans (hb1.mono HB.out.size))
  have hz1 : w1.heap[w.heap.size]? = some (.cells #[.int .i64 0, .int .u64 0, .int .u64 0, .int .u64 0, .int .u64 0, .slice none 0 0, .int .i64 0, .int .i64 0] 27) := Blk.keep (show Blk _ w.heap.size 27 [.int .i64 0, .int .u64 0, .int .u64 0, .int .u64 0, .int .u64 0, .slice none 0 0, .int .i64 0, .int .i64 0] from HZ.out) hb1
  have HR := hid (show (w1.setRow w.heap.size (RV.mk 2 q none 0 0 0 0).cells.toArray).heap[w.heap.size]? = some (.cells (RV.mk 2 q none 0 0 0 0).cells.toArray 27) from setRow_heap w1 w.heap.size _ _ _ (0, 0) hz1)
  have HB2 := hid (below_row HB1.out (Nat.le_refl _) (RV.mk 2 q none 0 0 0 0).cells.toArray)
  clear hb1 HAl HB HB1 HZ
  go_wp2_with (refine wpList_store_row rfl 27 _ _ rfl w.heap.size ((RV.mk 2 q none 0 0 0 0).cells.toArray) ?_ ?_ 27 _ hz1 (rx_size _) ?_ (rx_one _) ?_; exact rfl; exact rfl; exact rfl)
  exact bodyPost_ret (v := .agg (RV.mk 2 q none 0 0 0 0).cells.toArray) (results_cell_row (P := Tryd.prog) (fn := Tryd.f22) rfl _ _ w.heap.size 27 _ (0, 0) _ rfl HR.out Tryd.underlying27 rfl (rx_size _)) rfl ⟨HB2.out, _, rfl, Rep.leaf _ _ _ _ _ _ _ _⟩
/-- What a call of Parse answers. -/
def ReAt (R : List UInt8 → Option RT) : Prop := ∀ (s : ByteArray) (t : RT) (w : World), s.size ≤ 1000 → R s.data.toList = some t → Calls Tryd.prog 8 #[.string s] w (RefP t w)
set_option maxRecDepth 100000 in
set_option maxHeartbeats 8000000 in
theorem pi_par {R : List UInt8 → Option RT} (HR : ReAt R) (s : ByteArray) (t : RT) (hs : s.size ≤ 1000) (h0 : 2 ≤ s.size) (hc : nx s.data.toList 0 = 40) (hq : R ((s.data.toList.drop 1).take (s.data.toList.length - 2)) = some t) (w : World) :
    Calls Tryd.prog 22 #[.string s] w (RefP t w) := by
  have e0 := nx_str (show 0 < s.size by omega)
  rw [hc] at e0
  have hlen : s.data.toList.length = s.size := rfl
  have p0 : 0 < s.size := by omega
  have b0 : (0 : Int) ≤ (s.size : Int) - 1 := by omega
  have b1 : (1 : Int) ≤ (s.size : Int) - 1 := by omega
  have b2 : (s.size : Int) - 1 ≤ (s.size : Int) := by omega
  have b3 : ((s.size : Int) - 1).toNat = s.size - 1 := by omega
  have hx : (s.extract 1 (s.size - 1)).data.toList = (s.data.toList.drop 1).take (s.data.toList.length - 2) := by rw [ext_list, hlen, show s.size - 1 - 1 = s.size - 2 by omega]
  have hxs : (s.extract 1 (s.size - 1)).size ≤ 1000 := by
    have h : (s.extract 1 (s.size - 1)).data.toList.length = (s.extract 1 (s.size - 1)).size := rfl
    rw [← h, hx, List.length_take, List.length_drop, hlen]
    omega
  have HAl := hid (fun W => HR (s.extract 1 (s.size - 1)) t W hxs (by rw [hx]; exact hq))
  have hw1 : IntKind.i64.wrap ((s.size : Int) - 1) = ((s.size - 1 : Nat) : Int) := by rw [IntKind.wrap_i64]; omega
  generalize hs1 : s.extract 1 (s.size - 1) = s1 at *
  have hA : Below w.heap.size w (w.alloc (.cells zeroR 27)) := (Below.refl _ _).alloc (Nat.le_refl _) _
  have HA := hid hA
  have HZ := hid (show Blk (w.alloc (.cells zeroR 27)) w.heap.size 27 zeroR.toList from heap_alloc_new w (.cells zeroR 27))
  have hsz1 : (w.alloc (.cells zeroR 27)).heap.size = w.heap.size + 1 := by simp
  have HS1 := hid hsz1
  clear hA hsz1 hc hx hxs hq hlen HR
  go_enter Tryd.func22, Tryd.ntmps22
  go_upto_region 1 with (fail)
  change Code.wp _ _ _ _ (w.alloc (.cells zeroR 27))
  generalize w.alloc (.cells zeroR 27) = w1 at *
  go_wp2_with fail
  refine (HAl.out _).mono ?_
  rintro e w2 ⟨hb2, v, rfl, hrep⟩
  have HRs := hid (HZ.out.keep hb2)
  have HBel := hid (HA.out.trans (hb2.mono HA.out.size))
  have HREP := hid (show Rep (w2.setRow w.heap.size v.cells.toArray) (w.heap.size ≤ ·) v t from hrep.mono (by simp [World.setRow]) (fun b hp _ => setRow_other _ _ _ _ (by have h1 := HS1.out; have : w1.heap.size ≤ b := hp; omega)) (fun b h _ => by have h1 := HS1.out; have : w1.heap.size ≤ b := h; omega))
  clear hb2 hrep HAl HA HZ HS1
  go_wp2_with (refine wpList_store_row rfl 27 _ _ rfl w.heap.size (v.cells.toArray) ?_ ?_ 27 zeroR HRs.out (rx_size _) ?_ (rx_one _) ?_; exact rfl; exact rfl; exact rfl)
  exact bodyPost_ret (v := .agg (v.cells.toArray)) (results_cell_row (P := Tryd.prog) (fn := Tryd.f22) rfl _ _ w.heap.size 27 _ (0, 0) _ rfl (setRow_heap _ _ _ _ _ (0, 0) HRs.out) Tryd.underlying27 rfl (rx_size _)) rfl ⟨below_row HBel.out (Nat.le_refl _) _, _, rfl, HREP.out⟩
/-- A piece is what the list's function answers. -/
theorem rPiece_any {R : List UInt8 → Option RT} (HR : ReAt R) (s : ByteArray) (t : RT) (w : World) (hs : s.size ≤ 1000) (h : pcP R s.data.toList = some t) : Calls Tryd.prog 22 #[.string s] w (RefP t w) := by
  have hlen : s.data.toList.length = s.size := rfl
  unfold pcP at h
  split at h
  · cases h
  rename_i h0
  rw [hlen] at h0
  split at h
  · rename_i h1
    split at h
    · cases h
    rename_i h2
    rw [hlen] at h2
    exact pi_par HR s t hs (by omega) h1 h w
  · rename_i h1
    split at h
    · rename_i h2
      injection h with h
      subst h
      exact pi_dot s (by omega) h2 w
    · rename_i h2
      split at h
      · rename_i h3
        split at h
        · cases h
        rename_i h4
        rw [hlen] at h4
        cases hq : seP ((s.data.toList.drop 1).take (s.data.toList.length - 2)) with
        | none => rw [hq] at h; cases h
        | some q =>
          rw [hq] at h
          simp only [Option.map_some, Option.some.injEq] at h
          subst h
          exact pi_set s q hs (by omega) h3 hq w
      · rename_i h3
        cases hn : nmP s.data.toList with
        | none => rw [hn] at h; cases h
        | some c =>
          rw [hn] at h
          simp only [Option.map_some, Option.some.injEq] at h
          subst h
          exact pi_name s c (by omega) h1 h2 h3 hn w
end Go.Proofs.YtplldfbjbekdlaaDoor
