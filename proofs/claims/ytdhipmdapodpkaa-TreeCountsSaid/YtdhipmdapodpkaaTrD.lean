/- tree: Clone. -/
import Derived.Test.YtdhipmdapodpkaaTrC
import Derived.Deep.CutRange
import Derived.Deep.RegionWith
namespace Go.Proofs.Ytdhipmdapodpkaa
set_option linter.unusedSimpArgs false
set_option linter.unusedVariables false
open Go.RowKit

theorem mk_byte (n : Nat) (hn : n ≤ 1048576) (w : World) : ∃ cs : Array Value, cs.size = n * 1 ∧ (Instr.makeSlice 23 (.int .i64 (n : Int)) (.int .i64 (n : Int))).run Try.prog w = .ok (.slice (some ⟨w.heap.size, 0, none⟩) n n) (w.alloc (.cells cs 5)) := by
  obtain ⟨i0, hi, hz0, hz1, hz2⟩ := info_parts info_b
  have hr := run_make (P := Try.prog) w 23 5 i0 _ Try.underlying23 hi hz0 .i64 .i64 n n (by omega) (by omega) (by rw [hz2]; omega) (by omega)
  rw [hz1] at hr
  simp only [Int.toNat_natCast] at hr
  exact ⟨_, size_madeCells _ _, hr⟩
set_option maxRecDepth 100000 in
set_option maxHeartbeats 1000000 in
theorem own_byte (P : Nat → Prop) (s : SV) (xs : List Value) (w : World) (h : Rw w P s xs) (hn : s.n * 1 = xs.length) (hl : s.n ≤ 1048576) (h1 : ∀ u ∈ xs, u.oneCell' = true) : Calls Try.prog 30 #[s.val] w (OwnR 5 xs s w) := by
  obtain ⟨A, n, c⟩ := s
  unfold SV.val
  simp only at hn hl ⊢
  rcases A with _ | ad
  · have hx : xs = [] := h.1 rfl
    have HX := hid hx
    have hq := run_eql_slice_nil (P := Try.prog) w 23 5 none n c Try.underlying23
    have HN := hid hn
    clear h hn hx h1
    go_enter Try.func30, Try.ntmps30
    go_wp2
    go_ret
    have hn := HN.out
    rw [HX.out] at hn
    have hn0 : n = 0 := by simp at hn; omega
    subst hn0
    exact ⟨SV.nil, rfl, rfl, Below.refl _ _, .inl ⟨rfl, rfl, HX.out⟩⟩
  · obtain ⟨cs, hcs, hmk⟩ := mk_byte n hl w
    have hq := run_eql_slice_nil (P := Try.prog) w 23 5 (some ad) n c Try.underlying23
    have HB := hid ((Below.refl w.heap.size w).alloc (Nat.le_refl _) (.cells cs 5))
    have HG := hid (heap_alloc_new w (.cells cs 5))
    have HR := hid (h.keep ((Below.refl w.heap.size w).alloc (Nat.le_refl _) (.cells cs 5)))
    have HS := hid (show (w.alloc (.cells cs 5)).heap.size = w.heap.size + 1 by simp)
    have HN := hid hn
    have HC := hid hcs
    have H1 := hid h1
    clear h hn hl h1 hcs
    go_enter Try.func30, Try.ntmps30
    go_upto_region 4 with (fail)
    generalize hw1 : w.alloc (.cells cs 5) = w1 at *
    clear hmk
    go_wp2_with (refine wpList_copyF rfl _ _ 23 5 rfl Try.underlying23 1 (size_of_info info_b) w.heap.size n c (some ad) rfl rfl P xs HR.out HN.out (by decide) cs HG.out HC.out H1.out ?_; intro w2 hb2 hg2 hs2)
    go_ret
    refine ⟨⟨some ⟨w.heap.size, 0, none⟩, n, n⟩, rfl, rfl, ?_, .inr ⟨rfl, hb2.out, hs2.out.trans HS.out⟩⟩
    exact HB.out.grown hg2.out (by rw [HS.out]; omega) (fun k hk => by injection hk with hk; omega)
theorem mk_Tree (n : Nat) (hn : n ≤ 1048576) (w : World) : ∃ cs : Array Value, cs.size = n * 4 ∧ (Instr.makeSlice 24 (.int .i64 (n : Int)) (.int .i64 (n : Int))).run Try.prog w = .ok (.slice (some ⟨w.heap.size, 0, none⟩) n n) (w.alloc (.cells cs 26)) := by
  obtain ⟨i0, hi, hz0, hz1, hz2⟩ := info_parts info_tree
  have hr := run_make (P := Try.prog) w 24 26 i0 _ Try.underlying24 hi hz0 .i64 .i64 n n (by omega) (by omega) (by rw [hz2]; omega) (by omega)
  rw [hz1] at hr
  simp only [Int.toNat_natCast] at hr
  exact ⟨_, size_madeCells _ _, hr⟩
set_option maxRecDepth 100000 in
set_option maxHeartbeats 1000000 in
theorem own_Tree (P : Nat → Prop) (s : SV) (xs : List Value) (w : World) (h : Rw w P s xs) (hn : s.n * 4 = xs.length) (hl : s.n ≤ 1048576) (h1 : ∀ u ∈ xs, u.oneCell' = true) : Calls Try.prog 31 #[s.val] w (OwnR 26 xs s w) := by
  obtain ⟨A, n, c⟩ := s
  unfold SV.val
  simp only at hn hl ⊢
  rcases A with _ | ad
  · have hx : xs = [] := h.1 rfl
    have HX := hid hx
    have hq := run_eql_slice_nil (P := Try.prog) w 24 26 none n c Try.underlying24
    have HN := hid hn
    clear h hn hx h1
    go_enter Try.func31, Try.ntmps31
    go_wp2
    go_ret
    have hn := HN.out
    rw [HX.out] at hn
    have hn0 : n = 0 := by simp at hn; omega
    subst hn0
    exact ⟨SV.nil, rfl, rfl, Below.refl _ _, .inl ⟨rfl, rfl, HX.out⟩⟩
  · obtain ⟨cs, hcs, hmk⟩ := mk_Tree n hl w
    have hq := run_eql_slice_nil (P := Try.prog) w 24 26 (some ad) n c Try.underlying24
    have HB := hid ((Below.refl w.heap.size w).alloc (Nat.le_refl _) (.cells cs 26))
    have HG := hid (heap_alloc_new w (.cells cs 26))
    have HR := hid (h.keep ((Below.refl w.heap.size w).alloc (Nat.le_refl _) (.cells cs 26)))
    have HS := hid (show (w.alloc (.cells cs 26)).heap.size = w.heap.size + 1 by simp)
    have HN := hid hn
    have HC := hid hcs
    have H1 := hid h1
    clear h hn hl h1 hcs
    go_enter Try.func31, Try.ntmps31
    go_upto_region 4 with (fail)
    generalize hw1 : w.alloc (.cells cs 26) = w1 at *
    clear hmk
    go_wp2_with (refine wpList_copyF rfl _ _ 24 26 rfl Try.underlying24 4 (size_of_info info_tree) w.heap.size n c (some ad) rfl rfl P xs HR.out HN.out (by decide) cs HG.out HC.out H1.out ?_; intro w2 hb2 hg2 hs2)
    go_ret
    refine ⟨⟨some ⟨w.heap.size, 0, none⟩, n, n⟩, rfl, rfl, ?_, .inr ⟨rfl, hb2.out, hs2.out.trans HS.out⟩⟩
    exact HB.out.grown hg2.out (by rw [HS.out]; omega) (fun k hk => by injection hk with hk; omega)
theorem chg_setCells {g : Nat} : ∀ (xs : List Value) (o : Nat) (w : World), Chg w (w.setCells g o xs) (fun k => k = g)
  | [], o, w => Chg.refl w _
  | v :: xs, o, w => by
    unfold World.setCells
    exact ((Chg.refl w (fun k => k = g)).set g o rfl v).trans (chg_setCells xs (o + 1) _)
theorem blk_setCells {g : Nat} {T : TypeId} : ∀ (xs : List Value) (o : Nat) (cs : List Value) (w : World), Blk w g T cs → o + xs.length ≤ cs.length → Blk (w.setCells g o xs) g T (cs.take o ++ xs ++ cs.drop (o + xs.length))
  | [], o, cs, w, h, _ => by simpa [World.setCells] using h
  | v :: xs, o, cs, w, h, hl => by
    have h1 := blk_setCells xs (o + 1) (cs.set o v) (w.setCell ⟨g, o, none⟩ v) (h.put o v) (by simp at hl ⊢; omega)
    have e1 : (cs.set o v).take (o + 1) = cs.take o ++ [v] := by
      simp at hl
      rw [List.take_add_one, List.take_set_of_le (Nat.le_refl _)]
      simp [List.getElem?_set_self (show o < cs.length by omega)]
    have e2 : (cs.set o v).drop (o + 1 + xs.length) = cs.drop (o + (v :: xs).length) := by
      rw [List.drop_set_of_lt (by omega), List.length_cons]
      congr 1
      omega
    rw [e1, e2] at h1
    unfold World.setCells
    simpa using h1

/-- A row of the clone's own. -/
def Mine (w : World) (lo hi : Nat) (T : TypeId) (s : SV) (n : Nat) (xs : List Value) : Prop := s.n = n ∧ ((s = SV.nil ∧ xs = []) ∨ ∃ g, lo ≤ g ∧ g < hi ∧ s = ⟨some ⟨g, 0, none⟩, n, n⟩ ∧ Blk w g T xs)
theorem Mine.mono {w w' : World} {lo hi : Nat} {T : TypeId} {s : SV} {n : Nat} {xs : List Value} (h : Mine w lo hi T s n xs) (hb : ∀ b, lo ≤ b → b < hi → w'.heap[b]? = w.heap[b]?) : Mine w' lo hi T s n xs := by
  refine ⟨h.1, ?_⟩
  rcases h.2 with h | ⟨g, h1, h2, h3, h4⟩
  · exact .inl h
  · exact .inr ⟨g, h1, h2, h3, (hb g h1 h2).trans h4⟩
theorem Mine.wide {w : World} {lo hi lo' hi' : Nat} {T : TypeId} {s : SV} {n : Nat} {xs : List Value} (h : Mine w lo hi T s n xs) (h1 : lo' ≤ lo) (h2 : hi ≤ hi') : Mine w lo' hi' T s n xs := by
  refine ⟨h.1, ?_⟩
  rcases h.2 with h | ⟨g, a, b, c, d⟩
  · exact .inl h
  · exact .inr ⟨g, by omega, by omega, c, d⟩
theorem Mine.rw_ {w : World} {lo hi : Nat} {T : TypeId} {s : SV} {n : Nat} {xs : List Value} (h : Mine w lo hi T s n xs) : Rw w (fun b => lo ≤ b ∧ b < hi) s xs := by
  rcases h.2 with ⟨rfl, rfl⟩ | ⟨g, a, b, rfl, d⟩
  · exact Rw.nil _ _ _
  · refine ⟨fun e => by (cases e), fun hx => ⟨g, 0, rfl, d.lt, ⟨a, b⟩, fun j hj => by rw [Nat.zero_add, d.at, List.getElem?_eq_getElem hj]⟩⟩
/-- A clone: its memory lies between two bounds, each part's behind the one ahead of it. -/
inductive Seg (w : World) : Nat → Nat → TV → TT → Prop
  | mk (lo mid hi : Nat) (v : TV) (d : List UInt8) (ks : List TT) (vs : List TV) (m : Nat → Nat) (hb : v.num < 18446744073709551616) (hlo : lo ≤ mid) (h0 : mid ≤ m 0) (hm : ∀ j, j < ks.length → m j ≤ m (j + 1)) (hh : m ks.length ≤ hi)
      (hD : Mine w lo mid 5 v.D d.length (d.map isB)) (hl : vs.length = ks.length) (hK : Mine w lo mid 26 v.K ks.length (flatV vs)) (hr : ∀ j (h1 : j < vs.length) (h2 : j < ks.length), Seg w (m j) (m (j + 1)) vs[j] ks[j]) : Seg w lo hi v (.nd v.num v.bl d ks)
theorem mono_m {m : Nat → Nat} {n : Nat} (hm : ∀ j, j < n → m j ≤ m (j + 1)) : ∀ i j, i ≤ j → j ≤ n → m i ≤ m j := by
  intro i j
  induction j with
  | zero => intro h _; rw [Nat.le_zero.1 h]; exact Nat.le_refl _
  | succ j ih =>
    intro h h2
    by_cases e : i = j + 1
    · rw [e]; exact Nat.le_refl _
    · exact Nat.le_trans (ih (by omega) (by omega)) (hm j (by omega))
theorem Seg.inv {w : World} {lo hi : Nat} {v : TV} {n : Nat} {b : Bool} {d : List UInt8} {ks : List TT} (h : Seg w lo hi v (.nd n b d ks)) :
    v.num = n ∧ v.bl = b ∧ n < 18446744073709551616 ∧ ∃ (mid : Nat) (vs : List TV) (m : Nat → Nat), lo ≤ mid ∧ mid ≤ m 0 ∧ (∀ j, j < ks.length → m j ≤ m (j + 1)) ∧ m ks.length ≤ hi ∧ Mine w lo mid 5 v.D d.length (d.map isB) ∧ vs.length = ks.length ∧ Mine w lo mid 26 v.K ks.length (flatV vs) ∧ ∀ j (h1 : j < vs.length) (h2 : j < ks.length), Seg w (m j) (m (j + 1)) vs[j] ks[j] := by
  cases h with
  | mk _ mid _ _ _ _ vs m hb hlo h0 hm hh hD hl hK hr => exact ⟨rfl, rfl, hb, mid, vs, m, hlo, h0, hm, hh, hD, hl, hK, hr⟩
theorem Seg.le {w : World} {lo hi : Nat} {v : TV} {t : TT} (h : Seg w lo hi v t) : lo ≤ hi := by
  cases h with
  | mk _ mid _ _ _ ks vs m hb hlo h0 hm hh hD hl hK hr =>
    have := mono_m hm 0 ks.length (Nat.zero_le _) (Nat.le_refl _)
    omega
theorem Seg.mono {w w' : World} {lo hi : Nat} {v : TV} {t : TT} (h : Seg w lo hi v t) (hb : ∀ b, lo ≤ b → b < hi → w'.heap[b]? = w.heap[b]?) : Seg w' lo hi v t := by
  induction h with
  | mk lo mid hi v d ks vs m hn hlo h0 hm hh hD hl hK hr ih =>
    have hml := mono_m hm
    have h1 := hml 0 ks.length (Nat.zero_le _) (Nat.le_refl _)
    refine .mk lo mid hi v d ks vs m hn hlo h0 hm hh (hD.mono fun b a c => hb b a (by omega)) hl (hK.mono fun b a c => hb b a (by omega)) (fun j h1 h2 => ih j h1 h2 fun b a c => ?_)
    have := hml 0 j (Nat.zero_le _) (by omega)
    have := hml (j + 1) ks.length (by omega) (Nat.le_refl _)
    exact hb b (by omega) (by omega)
theorem Seg.wide {w : World} {lo hi lo' hi' : Nat} {v : TV} {t : TT} (h : Seg w lo hi v t) (h1 : lo' ≤ lo) (h2 : hi ≤ hi') : Seg w lo' hi' v t := by
  cases h with
  | mk _ mid _ _ _ ks vs m hb hlo h0 hm hh hD hl hK hr => exact .mk lo' mid hi' v _ ks vs m hb (by omega) h0 hm (by omega) (hD.wide h1 (Nat.le_refl _)) hl (hK.wide h1 (Nat.le_refl _)) hr
theorem Seg.rep {w : World} {lo hi : Nat} {v : TV} {t : TT} (h : Seg w lo hi v t) : Rep w (fun b => lo ≤ b ∧ b < hi) v t := by
  induction h with
  | mk lo mid hi v d ks vs m hn hlo h0 hm hh hD hl hK hr ih =>
    have hml := mono_m hm
    have h1 := hml 0 ks.length (Nat.zero_le _) (Nat.le_refl _)
    refine .mk v d ks vs hn hD.1 (hD.rw_.mono (fun _ _ _ => rfl) (Nat.le_refl _) (fun b hb _ => ⟨hb.1, by omega⟩)) hK.1 hl (hK.rw_.mono (fun _ _ _ => rfl) (Nat.le_refl _) (fun b hb _ => ⟨hb.1, by omega⟩)) (fun j h1 h2 => (ih j h1 h2).mono (fun _ _ _ => rfl) (Nat.le_refl _) (fun b hb _ => ?_))
    have := hml 0 j (Nat.zero_le _) (by omega)
    have := hml (j + 1) ks.length (by omega) (Nat.le_refl _)
    omega
theorem Seg.keep {w w' : World} {lo hi : Nat} {v : TV} {t : TT} (h : Seg w lo hi v t) (hb : Below w.heap.size w w') (hh : hi ≤ w.heap.size) : Seg w' lo hi v t :=
  h.mono fun b _ hl => hb.block b (by omega)
end Go.Proofs.Ytdhipmdapodpkaa
