/- spec: a list copied, whatever its elements. -/
import Derived.Test.YthjfhenldkihkaaSpA
import Derived.Deep.Cut
import Derived.Deep.RegionHeld3
import Derived.Deep.RegionWith
import Derived.OwnWalk
import Derived.Laws.StructEq
namespace Go.Proofs.Ythjfhenldkihkaa
set_option linter.unusedSimpArgs false
set_option linter.unusedVariables false
open Go.RowKit

theorem run_copy_rowN (P : Program) (w : World) (dT sT ty elem : TypeId) (sz g o dLen dCap : Nat) (a : Addr) (sLen sCap : Nat) (cur : Array Value) (t : TypeId) (cs : List Value)
    (hu : P.underlying dT = some (.slice elem)) (hs : (P.info? elem).map (·.size) = some sz)
    (hg : w.heap[g]? = some (.cells cur t (0, 0))) (hn : cs.length = Nat.min sLen dLen * sz)
    (hsrc : ∀ j v, cs[j]? = some v → w.cell? (a.add j) = some v) (hfit : o + cs.length ≤ cur.size) (h1 : ∀ v ∈ cs, v.oneCell' = true) :
    (Builtin.copy_ #[dT, sT] ty #[.slice (some ⟨g, o, none⟩) dLen dCap, .slice (some a) sLen sCap]).run P w =
      .ok (goInt (Nat.min sLen dLen)) (w.setRow g (cur.toList.take o ++ cs ++ cur.toList.drop (o + cs.length)).toArray) := by
  have hl := run_loadCells_list (P := P) w a cs hsrc
  have hst := run_storeCells_at P g o t cs 0 cur w hg (by simpa using hfit) h1
  cases hq : P.info? elem with
  | none => simp [hq] at hs
  | some i =>
    have hi : i.size = sz := by simpa [hq] using hs
    simp [Builtin.copy_, run_underlying hu, Builtin.lenOf, Builtin.firstCells, sizeOf, typeInfo, hq, hi, ← hn, hl, hst]
theorem run_copy_noneN (P : Program) (w : World) (dT sT ty elem : TypeId) (sz : Nat) (d a : Option Addr) (dCap sCap : Nat) (hu : P.underlying dT = some (.slice elem)) (hs : (P.info? elem).map (·.size) = some sz) :
    (Builtin.copy_ #[dT, sT] ty #[.slice d 0 dCap, .slice a 0 sCap]).run P w = .ok (goInt 0) w := by
  cases hq : P.info? elem with
  | none => simp [hq] at hs
  | some i =>
    rcases d with _ | d <;> rcases a with _ | a <;> simp_all [Builtin.copy_, run_underlying hu, Builtin.lenOf, Builtin.firstCells, sizeOf, typeInfo, storeCells, loadCells, loadCellsFrom]
theorem size_of_info {P : Program} {e : TypeId} {z : Value} {size bytes : Nat} (h : (P.info? e).map (fun i => (i.zero, i.size, i.bytes)) = some (some z, size, bytes)) : (P.info? e).map (·.size) = some size := by
  obtain ⟨i, hi, _, h2, _⟩ := info_parts h
  rw [hi, Option.map_some, h2]
/-- A whole copy into a new block. -/
theorem wpList_copyF {P : Program} {w : World} {ops : Array Oper} {rest : List Oper} {o : Oper} {a : Act} {Q : Exit → Act → World → Prop} (hgd : o.guard = none) (d s : Operand) (sT elem : TypeId)
    (ho : o.op = .call { callee := .builtin .copy, args := #[d, s], argTypes := #[sT, sT] }) (hu : P.underlying sT = some (.slice elem)) (sz : Nat) (hsz : (P.info? elem).map (·.size) = some sz)
    (g n c : Nat) (A : Option Addr) (hd : a.eval d = .slice (some ⟨g, 0, none⟩) n n) (hs : a.eval s = .slice A n c) (Pr : Nat → Prop) (xs : List Value) (hx : Rw w Pr ⟨A, n, c⟩ xs) (hn : n * sz = xs.length) (hz : 0 < sz)
    (cur : Array Value) (hg : w.heap[g]? = some (.cells cur elem (0, 0))) (hc : cur.size = n * sz) (h1 : ∀ v ∈ xs, v.oneCell' = true)
    (h : ∀ w', Hid (Blk w' g elem xs) → Hid (w.grownBy w' (some g)) → Hid (w'.heap.size = w.heap.size) → wpList P ops Q rest (a.put o.dst (goInt n)) w') :
    wpList P ops Q (o :: rest) a w := by
  refine wpList_plain hgd fun K hK => ?_
  have hmin : Nat.min n n = n := Nat.min_self n
  by_cases h0 : n = 0
  · subst h0
    have hx0 : xs = [] := List.eq_nil_of_length_eq_zero (by omega)
    subst hx0
    have hc0 : cur = #[] := Array.eq_empty_of_size_eq_zero (by omega)
    subst hc0
    have hrun := run_copy_noneN P w sT sT o.type elem sz (some ⟨g, 0, none⟩) A 0 c hu hsz
    unfold Oper.wp
    simp [execOp, ho, resolve, invoke, builtin, hd, hs, hrun, Result.andThen]
    exact hK _ _ (h w hg ⟨rfl, rfl, rfl, Nat.le_refl _, fun _ _ _ => rfl⟩ rfl)
  · have hpos : 0 < xs.length := by rw [← hn]; exact Nat.mul_pos (by omega) hz
    obtain ⟨ad, hA, hsrc⟩ := hx.src hpos
    simp only at hA
    subst hA
    have hrun := run_copy_rowN P w sT sT o.type elem sz g 0 n n ad n c cur elem xs hu hsz hg (by rw [hmin]; exact hn.symm) hsrc (by omega) h1
    rw [hmin] at hrun
    unfold Oper.wp
    simp [execOp, ho, resolve, invoke, builtin, hd, hs, hrun, Result.andThen]
    refine hK _ _ (h _ (hid ?_) (hid ⟨rfl, rfl, rfl, by simp [World.setRow], fun k hk hne => setRow_other w g k _ (fun e => hne (by rw [e]))⟩) (hid (by simp [World.setRow])))
    unfold Blk
    have := setRow_heap w g _ xs.toArray elem _ hg
    have e : cur.toList.drop xs.length = [] := List.drop_eq_nil_of_le (by simp; omega)
    rw [e]
    simpa using this
theorem run_eql_slice_nil {P : Program} (w : World) (t e : TypeId) (a : Option Addr) (l c : Nat) (h : P.underlying t = some (.slice e)) : (binOp .eql t (.slice a l c) (.slice none 0 0)).run P w = .ok (.bool a.isNone) w := by
  simp [binOp, run_equal_slice_nil w t e a l c h]
/-- What own answers: nothing of nothing, else a new block. -/
def OwnR (T : TypeId) (xs : List Value) (s : SV) (w : World) (e : Ending) (w' : World) : Prop :=
  ∃ s' : SV, e = .returned s'.val ∧ s'.n = s.n ∧ Below w.heap.size w w' ∧ ((s.A = none ∧ s' = SV.nil ∧ xs = []) ∨ (s' = ⟨some ⟨w.heap.size, 0, none⟩, s.n, s.n⟩ ∧ Blk w' w.heap.size T xs ∧ w'.heap.size = w.heap.size + 1))
end Go.Proofs.Ythjfhenldkihkaa

/- spec: own, type by type. -/
namespace Go.Proofs.Ythjfhenldkihkaa
set_option linter.unusedSimpArgs false
set_option linter.unusedVariables false
open Go.RowKit

theorem info_nodez : (Try.prog.info? 49).map (fun i => (i.zero, i.size, i.bytes)) = some (some (.agg #[.int .i64 0, .int .i64 0, .bool false, .bool false, .bool false, .int .u64 0, .int .u64 0, .string ⟨#[]⟩, .string ⟨#[]⟩, .int .u64 0, .int .u64 0, .slice none 0 0, .slice none 0 0, .slice none 0 0, .string ⟨#[]⟩, .int .u64 0, .slice none 0 0, .int .i64 0]), 18, 216) := by kernel_rfl
theorem size_madeCells (z : Array Value) (n : Nat) : (madeCells z n).size = n := by simp [madeCells]

theorem mk_int (n : Nat) (hn : n ≤ 1048576) (w : World) : ∃ cs : Array Value, cs.size = n * 1 ∧ (Instr.makeSlice 30 (.int .i64 (n : Int)) (.int .i64 (n : Int))).run Try.prog w = .ok (.slice (some ⟨w.heap.size, 0, none⟩) n n) (w.alloc (.cells cs 3)) := by
  obtain ⟨i0, hi, hz0, hz1, hz2⟩ := info_parts info_int
  have hr := run_make (P := Try.prog) w 30 3 i0 _ Try.underlying30 hi hz0 .i64 .i64 n n (by omega) (by omega) (by rw [hz2]; omega) (by omega)
  rw [hz1] at hr
  simp only [Int.toNat_natCast] at hr
  exact ⟨_, size_madeCells _ _, hr⟩
set_option maxRecDepth 100000 in
set_option maxHeartbeats 1000000 in
theorem own_int (P : Nat → Prop) (s : SV) (xs : List Value) (w : World) (h : Rw w P s xs) (hn : s.n * 1 = xs.length) (hl : s.n ≤ 1048576) (h1 : ∀ u ∈ xs, u.oneCell' = true) : Calls Try.prog 55 #[s.val] w (OwnR 3 xs s w) := by
  obtain ⟨A, n, c⟩ := s
  unfold SV.val
  simp only at hn hl ⊢
  rcases A with _ | ad
  · have hx : xs = [] := h.1 rfl
    have HX := hid hx
    have hq := run_eql_slice_nil (P := Try.prog) w 30 3 none n c Try.underlying30
    have HN := hid hn
    clear h hn hx h1
    go_enter Try.func55, Try.ntmps55
    go_wp2
    go_ret
    have hn := HN.out
    rw [HX.out] at hn
    have hn0 : n = 0 := by simp at hn; omega
    subst hn0
    exact ⟨SV.nil, rfl, rfl, Below.refl _ _, .inl ⟨rfl, rfl, HX.out⟩⟩
  · obtain ⟨cs, hcs, hmk⟩ := mk_int n hl w
    have hq := run_eql_slice_nil (P := Try.prog) w 30 3 (some ad) n c Try.underlying30
    have HB := hid ((Below.refl w.heap.size w).alloc (Nat.le_refl _) (.cells cs 3))
    have HG := hid (heap_alloc_new w (.cells cs 3))
    have HR := hid (h.keep ((Below.refl w.heap.size w).alloc (Nat.le_refl _) (.cells cs 3)))
    have HS := hid (show (w.alloc (.cells cs 3)).heap.size = w.heap.size + 1 by simp)
    have HN := hid hn
    have HC := hid hcs
    have H1 := hid h1
    clear h hn hl h1 hcs
    go_enter Try.func55, Try.ntmps55
    go_upto_region 4 with (fail)
    generalize hw1 : w.alloc (.cells cs 3) = w1 at *
    clear hmk
    go_wp2_with (refine wpList_copyF rfl _ _ 30 3 rfl Try.underlying30 1 (size_of_info info_int) w.heap.size n c (some ad) rfl rfl P xs HR.out HN.out (by decide) cs HG.out HC.out H1.out ?_; intro w2 hb2 hg2 hs2)
    go_ret
    refine ⟨⟨some ⟨w.heap.size, 0, none⟩, n, n⟩, rfl, rfl, ?_, .inr ⟨rfl, hb2.out, hs2.out.trans HS.out⟩⟩
    exact HB.out.grown hg2.out (by rw [HS.out]; omega) (fun k hk => by injection hk with hk; omega)

theorem mk_bool (n : Nat) (hn : n ≤ 1048576) (w : World) : ∃ cs : Array Value, cs.size = n * 1 ∧ (Instr.makeSlice 45 (.int .i64 (n : Int)) (.int .i64 (n : Int))).run Try.prog w = .ok (.slice (some ⟨w.heap.size, 0, none⟩) n n) (w.alloc (.cells cs 4)) := by
  obtain ⟨i0, hi, hz0, hz1, hz2⟩ := info_parts info_bool
  have hr := run_make (P := Try.prog) w 45 4 i0 _ Try.underlying45 hi hz0 .i64 .i64 n n (by omega) (by omega) (by rw [hz2]; omega) (by omega)
  rw [hz1] at hr
  simp only [Int.toNat_natCast] at hr
  exact ⟨_, size_madeCells _ _, hr⟩
set_option maxRecDepth 100000 in
set_option maxHeartbeats 1000000 in
theorem own_bool (P : Nat → Prop) (s : SV) (xs : List Value) (w : World) (h : Rw w P s xs) (hn : s.n * 1 = xs.length) (hl : s.n ≤ 1048576) (h1 : ∀ u ∈ xs, u.oneCell' = true) : Calls Try.prog 56 #[s.val] w (OwnR 4 xs s w) := by
  obtain ⟨A, n, c⟩ := s
  unfold SV.val
  simp only at hn hl ⊢
  rcases A with _ | ad
  · have hx : xs = [] := h.1 rfl
    have HX := hid hx
    have hq := run_eql_slice_nil (P := Try.prog) w 45 4 none n c Try.underlying45
    have HN := hid hn
    clear h hn hx h1
    go_enter Try.func56, Try.ntmps56
    go_wp2
    go_ret
    have hn := HN.out
    rw [HX.out] at hn
    have hn0 : n = 0 := by simp at hn; omega
    subst hn0
    exact ⟨SV.nil, rfl, rfl, Below.refl _ _, .inl ⟨rfl, rfl, HX.out⟩⟩
  · obtain ⟨cs, hcs, hmk⟩ := mk_bool n hl w
    have hq := run_eql_slice_nil (P := Try.prog) w 45 4 (some ad) n c Try.underlying45
    have HB := hid ((Below.refl w.heap.size w).alloc (Nat.le_refl _) (.cells cs 4))
    have HG := hid (heap_alloc_new w (.cells cs 4))
    have HR := hid (h.keep ((Below.refl w.heap.size w).alloc (Nat.le_refl _) (.cells cs 4)))
    have HS := hid (show (w.alloc (.cells cs 4)).heap.size = w.heap.size + 1 by simp)
    have HN := hid hn
    have HC := hid hcs
    have H1 := hid h1
    clear h hn hl h1 hcs
    go_enter Try.func56, Try.ntmps56
    go_upto_region 4 with (fail)
    generalize hw1 : w.alloc (.cells cs 4) = w1 at *
    clear hmk
    go_wp2_with (refine wpList_copyF rfl _ _ 45 4 rfl Try.underlying45 1 (size_of_info info_bool) w.heap.size n c (some ad) rfl rfl P xs HR.out HN.out (by decide) cs HG.out HC.out H1.out ?_; intro w2 hb2 hg2 hs2)
    go_ret
    refine ⟨⟨some ⟨w.heap.size, 0, none⟩, n, n⟩, rfl, rfl, ?_, .inr ⟨rfl, hb2.out, hs2.out.trans HS.out⟩⟩
    exact HB.out.grown hg2.out (by rw [HS.out]; omega) (fun k hk => by injection hk with hk; omega)

theorem mk_Field (n : Nat) (hn : n ≤ 1048576) (w : World) : ∃ cs : Array Value, cs.size = n * 5 ∧ (Instr.makeSlice 46 (.int .i64 (n : Int)) (.int .i64 (n : Int))).run Try.prog w = .ok (.slice (some ⟨w.heap.size, 0, none⟩) n n) (w.alloc (.cells cs 51)) := by
  obtain ⟨i0, hi, hz0, hz1, hz2⟩ := info_parts info_field
  have hr := run_make (P := Try.prog) w 46 51 i0 _ Try.underlying46 hi hz0 .i64 .i64 n n (by omega) (by omega) (by rw [hz2]; omega) (by omega)
  rw [hz1] at hr
  simp only [Int.toNat_natCast] at hr
  exact ⟨_, size_madeCells _ _, hr⟩
set_option maxRecDepth 100000 in
set_option maxHeartbeats 1000000 in
theorem own_Field (P : Nat → Prop) (s : SV) (xs : List Value) (w : World) (h : Rw w P s xs) (hn : s.n * 5 = xs.length) (hl : s.n ≤ 1048576) (h1 : ∀ u ∈ xs, u.oneCell' = true) : Calls Try.prog 57 #[s.val] w (OwnR 51 xs s w) := by
  obtain ⟨A, n, c⟩ := s
  unfold SV.val
  simp only at hn hl ⊢
  rcases A with _ | ad
  · have hx : xs = [] := h.1 rfl
    have HX := hid hx
    have hq := run_eql_slice_nil (P := Try.prog) w 46 51 none n c Try.underlying46
    have HN := hid hn
    clear h hn hx h1
    go_enter Try.func57, Try.ntmps57
    go_wp2
    go_ret
    have hn := HN.out
    rw [HX.out] at hn
    have hn0 : n = 0 := by simp at hn; omega
    subst hn0
    exact ⟨SV.nil, rfl, rfl, Below.refl _ _, .inl ⟨rfl, rfl, HX.out⟩⟩
  · obtain ⟨cs, hcs, hmk⟩ := mk_Field n hl w
    have hq := run_eql_slice_nil (P := Try.prog) w 46 51 (some ad) n c Try.underlying46
    have HB := hid ((Below.refl w.heap.size w).alloc (Nat.le_refl _) (.cells cs 51))
    have HG := hid (heap_alloc_new w (.cells cs 51))
    have HR := hid (h.keep ((Below.refl w.heap.size w).alloc (Nat.le_refl _) (.cells cs 51)))
    have HS := hid (show (w.alloc (.cells cs 51)).heap.size = w.heap.size + 1 by simp)
    have HN := hid hn
    have HC := hid hcs
    have H1 := hid h1
    clear h hn hl h1 hcs
    go_enter Try.func57, Try.ntmps57
    go_upto_region 4 with (fail)
    generalize hw1 : w.alloc (.cells cs 51) = w1 at *
    clear hmk
    go_wp2_with (refine wpList_copyF rfl _ _ 46 51 rfl Try.underlying46 5 (size_of_info info_field) w.heap.size n c (some ad) rfl rfl P xs HR.out HN.out (by decide) cs HG.out HC.out H1.out ?_; intro w2 hb2 hg2 hs2)
    go_ret
    refine ⟨⟨some ⟨w.heap.size, 0, none⟩, n, n⟩, rfl, rfl, ?_, .inr ⟨rfl, hb2.out, hs2.out.trans HS.out⟩⟩
    exact HB.out.grown hg2.out (by rw [HS.out]; omega) (fun k hk => by injection hk with hk; omega)

theorem mk_Case (n : Nat) (hn : n ≤ 1048576) (w : World) : ∃ cs : Array Value, cs.size = n * 2 ∧ (Instr.makeSlice 47 (.int .i64 (n : Int)) (.int .i64 (n : Int))).run Try.prog w = .ok (.slice (some ⟨w.heap.size, 0, none⟩) n n) (w.alloc (.cells cs 81)) := by
  obtain ⟨i0, hi, hz0, hz1, hz2⟩ := info_parts info_case
  have hr := run_make (P := Try.prog) w 47 81 i0 _ Try.underlying47 hi hz0 .i64 .i64 n n (by omega) (by omega) (by rw [hz2]; omega) (by omega)
  rw [hz1] at hr
  simp only [Int.toNat_natCast] at hr
  exact ⟨_, size_madeCells _ _, hr⟩
set_option maxRecDepth 100000 in
set_option maxHeartbeats 1000000 in
theorem own_Case (P : Nat → Prop) (s : SV) (xs : List Value) (w : World) (h : Rw w P s xs) (hn : s.n * 2 = xs.length) (hl : s.n ≤ 1048576) (h1 : ∀ u ∈ xs, u.oneCell' = true) : Calls Try.prog 58 #[s.val] w (OwnR 81 xs s w) := by
  obtain ⟨A, n, c⟩ := s
  unfold SV.val
  simp only at hn hl ⊢
  rcases A with _ | ad
  · have hx : xs = [] := h.1 rfl
    have HX := hid hx
    have hq := run_eql_slice_nil (P := Try.prog) w 47 81 none n c Try.underlying47
    have HN := hid hn
    clear h hn hx h1
    go_enter Try.func58, Try.ntmps58
    go_wp2
    go_ret
    have hn := HN.out
    rw [HX.out] at hn
    have hn0 : n = 0 := by simp at hn; omega
    subst hn0
    exact ⟨SV.nil, rfl, rfl, Below.refl _ _, .inl ⟨rfl, rfl, HX.out⟩⟩
  · obtain ⟨cs, hcs, hmk⟩ := mk_Case n hl w
    have hq := run_eql_slice_nil (P := Try.prog) w 47 81 (some ad) n c Try.underlying47
    have HB := hid ((Below.refl w.heap.size w).alloc (Nat.le_refl _) (.cells cs 81))
    have HG := hid (heap_alloc_new w (.cells cs 81))
    have HR := hid (h.keep ((Below.refl w.heap.size w).alloc (Nat.le_refl _) (.cells cs 81)))
    have HS := hid (show (w.alloc (.cells cs 81)).heap.size = w.heap.size + 1 by simp)
    have HN := hid hn
    have HC := hid hcs
    have H1 := hid h1
    clear h hn hl h1 hcs
    go_enter Try.func58, Try.ntmps58
    go_upto_region 4 with (fail)
    generalize hw1 : w.alloc (.cells cs 81) = w1 at *
    clear hmk
    go_wp2_with (refine wpList_copyF rfl _ _ 47 81 rfl Try.underlying47 2 (size_of_info info_case) w.heap.size n c (some ad) rfl rfl P xs HR.out HN.out (by decide) cs HG.out HC.out H1.out ?_; intro w2 hb2 hg2 hs2)
    go_ret
    refine ⟨⟨some ⟨w.heap.size, 0, none⟩, n, n⟩, rfl, rfl, ?_, .inr ⟨rfl, hb2.out, hs2.out.trans HS.out⟩⟩
    exact HB.out.grown hg2.out (by rw [HS.out]; omega) (fun k hk => by injection hk with hk; omega)

theorem mk_Def (n : Nat) (hn : n ≤ 1048576) (w : World) : ∃ cs : Array Value, cs.size = n * 2 ∧ (Instr.makeSlice 23 (.int .i64 (n : Int)) (.int .i64 (n : Int))).run Try.prog w = .ok (.slice (some ⟨w.heap.size, 0, none⟩) n n) (w.alloc (.cells cs 32)) := by
  obtain ⟨i0, hi, hz0, hz1, hz2⟩ := info_parts info_def
  have hr := run_make (P := Try.prog) w 23 32 i0 _ Try.underlying23 hi hz0 .i64 .i64 n n (by omega) (by omega) (by rw [hz2]; omega) (by omega)
  rw [hz1] at hr
  simp only [Int.toNat_natCast] at hr
  exact ⟨_, size_madeCells _ _, hr⟩
set_option maxRecDepth 100000 in
set_option maxHeartbeats 1000000 in
theorem own_Def (P : Nat → Prop) (s : SV) (xs : List Value) (w : World) (h : Rw w P s xs) (hn : s.n * 2 = xs.length) (hl : s.n ≤ 1048576) (h1 : ∀ u ∈ xs, u.oneCell' = true) : Calls Try.prog 35 #[s.val] w (OwnR 32 xs s w) := by
  obtain ⟨A, n, c⟩ := s
  unfold SV.val
  simp only at hn hl ⊢
  rcases A with _ | ad
  · have hx : xs = [] := h.1 rfl
    have HX := hid hx
    have hq := run_eql_slice_nil (P := Try.prog) w 23 32 none n c Try.underlying23
    have HN := hid hn
    clear h hn hx h1
    go_enter Try.func35, Try.ntmps35
    go_wp2
    go_ret
    have hn := HN.out
    rw [HX.out] at hn
    have hn0 : n = 0 := by simp at hn; omega
    subst hn0
    exact ⟨SV.nil, rfl, rfl, Below.refl _ _, .inl ⟨rfl, rfl, HX.out⟩⟩
  · obtain ⟨cs, hcs, hmk⟩ := mk_Def n hl w
    have hq := run_eql_slice_nil (P := Try.prog) w 23 32 (some ad) n c Try.underlying23
    have HB := hid ((Below.refl w.heap.size w).alloc (Nat.le_refl _) (.cells cs 32))
    have HG := hid (heap_alloc_new w (.cells cs 32))
    have HR := hid (h.keep ((Below.refl w.heap.size w).alloc (Nat.le_refl _) (.cells cs 32)))
    have HS := hid (show (w.alloc (.cells cs 32)).heap.size = w.heap.size + 1 by simp)
    have HN := hid hn
    have HC := hid hcs
    have H1 := hid h1
    clear h hn hl h1 hcs
    go_enter Try.func35, Try.ntmps35
    go_upto_region 4 with (fail)
    generalize hw1 : w.alloc (.cells cs 32) = w1 at *
    clear hmk
    go_wp2_with (refine wpList_copyF rfl _ _ 23 32 rfl Try.underlying23 2 (size_of_info info_def) w.heap.size n c (some ad) rfl rfl P xs HR.out HN.out (by decide) cs HG.out HC.out H1.out ?_; intro w2 hb2 hg2 hs2)
    go_ret
    refine ⟨⟨some ⟨w.heap.size, 0, none⟩, n, n⟩, rfl, rfl, ?_, .inr ⟨rfl, hb2.out, hs2.out.trans HS.out⟩⟩
    exact HB.out.grown hg2.out (by rw [HS.out]; omega) (fun k hk => by injection hk with hk; omega)

theorem mk_Node (n : Nat) (hn : n ≤ 1048576) (w : World) : ∃ cs : Array Value, cs.size = n * 18 ∧ (Instr.makeSlice 22 (.int .i64 (n : Int)) (.int .i64 (n : Int))).run Try.prog w = .ok (.slice (some ⟨w.heap.size, 0, none⟩) n n) (w.alloc (.cells cs 49)) := by
  obtain ⟨i0, hi, hz0, hz1, hz2⟩ := info_parts info_nodez
  have hr := run_make (P := Try.prog) w 22 49 i0 _ Try.underlying22 hi hz0 .i64 .i64 n n (by omega) (by omega) (by rw [hz2]; omega) (by omega)
  rw [hz1] at hr
  simp only [Int.toNat_natCast] at hr
  exact ⟨_, size_madeCells _ _, hr⟩
set_option maxRecDepth 100000 in
set_option maxHeartbeats 1000000 in
theorem own_Node (P : Nat → Prop) (s : SV) (xs : List Value) (w : World) (h : Rw w P s xs) (hn : s.n * 18 = xs.length) (hl : s.n ≤ 1048576) (h1 : ∀ u ∈ xs, u.oneCell' = true) : Calls Try.prog 34 #[s.val] w (OwnR 49 xs s w) := by
  obtain ⟨A, n, c⟩ := s
  unfold SV.val
  simp only at hn hl ⊢
  rcases A with _ | ad
  · have hx : xs = [] := h.1 rfl
    have HX := hid hx
    have hq := run_eql_slice_nil (P := Try.prog) w 22 49 none n c Try.underlying22
    have HN := hid hn
    clear h hn hx h1
    go_enter Try.func34, Try.ntmps34
    go_wp2
    go_ret
    have hn := HN.out
    rw [HX.out] at hn
    have hn0 : n = 0 := by simp at hn; omega
    subst hn0
    exact ⟨SV.nil, rfl, rfl, Below.refl _ _, .inl ⟨rfl, rfl, HX.out⟩⟩
  · obtain ⟨cs, hcs, hmk⟩ := mk_Node n hl w
    have hq := run_eql_slice_nil (P := Try.prog) w 22 49 (some ad) n c Try.underlying22
    have HB := hid ((Below.refl w.heap.size w).alloc (Nat.le_refl _) (.cells cs 49))
    have HG := hid (heap_alloc_new w (.cells cs 49))
    have HR := hid (h.keep ((Below.refl w.heap.size w).alloc (Nat.le_refl _) (.cells cs 49)))
    have HS := hid (show (w.alloc (.cells cs 49)).heap.size = w.heap.size + 1 by simp)
    have HN := hid hn
    have HC := hid hcs
    have H1 := hid h1
    clear h hn hl h1 hcs
    go_enter Try.func34, Try.ntmps34
    go_upto_region 4 with (fail)
    generalize hw1 : w.alloc (.cells cs 49) = w1 at *
    clear hmk
    go_wp2_with (refine wpList_copyF rfl _ _ 22 49 rfl Try.underlying22 18 (size_of_info info_nodez) w.heap.size n c (some ad) rfl rfl P xs HR.out HN.out (by decide) cs HG.out HC.out H1.out ?_; intro w2 hb2 hg2 hs2)
    go_ret
    refine ⟨⟨some ⟨w.heap.size, 0, none⟩, n, n⟩, rfl, rfl, ?_, .inr ⟨rfl, hb2.out, hs2.out.trans HS.out⟩⟩
    exact HB.out.grown hg2.out (by rw [HS.out]; omega) (fun k hk => by injection hk with hk; omega)
end Go.Proofs.Ythjfhenldkihkaa

/- spec: Own. -/
namespace Go.Proofs.Ythjfhenldkihkaa
set_option linter.unusedSimpArgs false
set_option linter.unusedVariables false
open Go.RowKit

/-- A list in a block of its own, or nil. -/
def OwnL (w : World) (base : Nat) (T : TypeId) (s : SV) (xs : List Value) : Prop :=
  (s = SV.nil ∧ xs = []) ∨ ∃ g, s = ⟨some ⟨g, 0, none⟩, s.n, s.n⟩ ∧ base ≤ g ∧ Blk w g T xs
theorem OwnL.keep {w w' : World} {base : Nat} {T : TypeId} {s : SV} {xs : List Value} (h : OwnL w base T s xs) (hb : Below w.heap.size w w') : OwnL w' base T s xs := by
  rcases h with h | ⟨g, e, hg, hB⟩
  · exact .inl h
  · exact .inr ⟨g, e, hg, hB.keep hb⟩
theorem OwnL.rw_ {w : World} {base : Nat} {T : TypeId} {s : SV} {xs : List Value} (h : OwnL w base T s xs) : Rw w (base ≤ ·) s xs := by
  rcases h with ⟨rfl, rfl⟩ | ⟨g, e, hg, hB⟩
  · exact Rw.nil _ _ _
  · have hA : s.A = some ⟨g, 0, none⟩ := congrArg SV.A e
    refine ⟨fun h => ?_, fun _ => ⟨g, 0, hA, hB.lt, hg, fun j hj => ?_⟩⟩
    · rw [hA] at h; cases h
    · rw [Nat.zero_add, Blk.at hB, List.getElem?_eq_getElem hj]
theorem OwnL.of {w w' : World} {T : TypeId} {s s' : SV} {xs : List Value} (hn : s'.n = s.n) (h : (s.A = none ∧ s' = SV.nil ∧ xs = []) ∨ (s' = ⟨some ⟨w.heap.size, 0, none⟩, s.n, s.n⟩ ∧ Blk w' w.heap.size T xs ∧ w'.heap.size = w.heap.size + 1)) (base : Nat) (hb : base ≤ w.heap.size) : OwnL w' base T s' xs := by
  rcases h with ⟨_, h1, h2⟩ | ⟨h1, h2, _⟩
  · exact .inl ⟨h1, h2⟩
  · exact .inr ⟨_, by rw [hn]; exact h1, hb, h2⟩
theorem OwnL.drew {w : World} {base : Nat} {T : TypeId} {s : SV} {xs : List Value} (h : OwnL w base T s xs) : OwnL w.drew base T s xs := h
theorem OwnL.set {w : World} {base : Nat} {T : TypeId} {s : SV} {xs : List Value} (h : OwnL w base T s xs) (g i : Nat) (hg : g < base) (u : Value) : OwnL (w.setCell ⟨g, i, none⟩ u) base T s xs := by
  rcases h with h | ⟨k, e, hk, hB⟩
  · exact .inl h
  · exact .inr ⟨k, e, hk, hB.other (by simp only; omega) u⟩
theorem OwnL.base {w : World} {base base' : Nat} {T : TypeId} {s : SV} {xs : List Value} (h : OwnL w base T s xs) (hb : base' ≤ base) : OwnL w base' T s xs := by
  rcases h with h | ⟨k, e, hk, hB⟩
  · exact .inl h
  · exact .inr ⟨k, e, Nat.le_trans hb hk, hB⟩
theorem OwnL.row {w : World} {base : Nat} {T : TypeId} {s : SV} {xs : List Value} (h : OwnL w base T s xs) (g : Nat) (hg : g < base) (cs : Array Value) : OwnL (w.setRow g cs) base T s xs := by
  rcases h with h | ⟨k, e, hk, hB⟩
  · exact .inl h
  · exact .inr ⟨k, e, hk, (setRow_other w g k cs (by omega)).trans hB⟩
structure NodeOwn (w : World) (base : Nat) (x : NV) : Prop where
  kn : x.K.n = x.t.ks.length
  ln : x.L.n = x.t.ls.length
  fn : x.F.n = x.t.fs.length
  cn : x.C.n = x.t.cs.length
  k : OwnL w base 3 x.K (intC x.t.ks)
  l : OwnL w base 4 x.L (boolC x.t.ls)
  f : OwnL w base 51 x.F (flatF x.t.fs)
  c : OwnL w base 81 x.C (flatC x.t.cs)
theorem NodeOwn.keep {w w' : World} {base : Nat} {x : NV} (h : NodeOwn w base x) (hb : Below w.heap.size w w') : NodeOwn w' base x :=
  ⟨h.kn, h.ln, h.fn, h.cn, h.k.keep hb, h.l.keep hb, h.f.keep hb, h.c.keep hb⟩
theorem NodeOwn.ok {w : World} {base : Nat} {x : NV} (h : NodeOwn w base x) : NodeOk w (base ≤ ·) x :=
  ⟨h.kn, h.ln, h.fn, h.cn, h.k.rw_, h.l.rw_, h.f.rw_, h.c.rw_⟩
theorem NodeOwn.row {w : World} {base : Nat} {x : NV} (h : NodeOwn w base x) (g : Nat) (hg : g < base) (cs : Array Value) : NodeOwn (w.setRow g cs) base x :=
  ⟨h.kn, h.ln, h.fn, h.cn, h.k.row g hg cs, h.l.row g hg cs, h.f.row g hg cs, h.c.row g hg cs⟩
theorem NodeOwn.set {w : World} {base : Nat} {x : NV} (h : NodeOwn w base x) (g i : Nat) (hg : g < base) (u : Value) : NodeOwn (w.setCell ⟨g, i, none⟩ u) base x :=
  ⟨h.kn, h.ln, h.fn, h.cn, h.k.set g i hg u, h.l.set g i hg u, h.f.set g i hg u, h.c.set g i hg u⟩
theorem NodeOwn.base {w : World} {base base' : Nat} {x : NV} (h : NodeOwn w base x) (hb : base' ≤ base) : NodeOwn w base' x :=
  ⟨h.kn, h.ln, h.fn, h.cn, h.k.base hb, h.l.base hb, h.f.base hb, h.c.base hb⟩
/-- A type's lists aren't too long for a copy. -/
structure Fits (x : NV) : Prop where
  k : x.K.n ≤ 1048576
  l : x.L.n ≤ 1048576
  f : x.F.n ≤ 1048576
  c : x.C.n ≤ 1048576
/-- The cells of a box of a type, each by itself. -/
theorem nv_cells {w : World} {g : Nat} {x : NV} (h : Blk w g 49 x.cells) :
    w.cell? ⟨g, 0, none⟩ = some (.int .i64 x.t.k) ∧ w.cell? ⟨g, 1, none⟩ = some (.int .i64 x.t.wd) ∧ w.cell? ⟨g, 2, none⟩ = some (.bool x.t.li) ∧ w.cell? ⟨g, 3, none⟩ = some (.bool x.t.zg) ∧ w.cell? ⟨g, 4, none⟩ = some (.bool x.t.le) ∧ w.cell? ⟨g, 5, none⟩ = some (.int .u64 (x.t.mn : Int)) ∧ w.cell? ⟨g, 6, none⟩ = some (.int .u64 (x.t.mx : Int)) ∧ w.cell? ⟨g, 7, none⟩ = some (.string x.t.tx) ∧ w.cell? ⟨g, 8, none⟩ = some (.string x.t.er) ∧ w.cell? ⟨g, 9, none⟩ = some (.int .u64 (x.t.mu : Int)) ∧ w.cell? ⟨g, 10, none⟩ = some (.int .u64 (x.t.ad : Int)) ∧ w.cell? ⟨g, 11, none⟩ = some (.slice x.K.A x.K.n x.K.c) ∧ w.cell? ⟨g, 12, none⟩ = some (.slice x.L.A x.L.n x.L.c) ∧ w.cell? ⟨g, 13, none⟩ = some (.slice x.F.A x.F.n x.F.c) ∧ w.cell? ⟨g, 14, none⟩ = some (.string x.t.rg) ∧ w.cell? ⟨g, 15, none⟩ = some (.int .u64 (x.t.md : Int)) ∧ w.cell? ⟨g, 16, none⟩ = some (.slice x.C.A x.C.n x.C.c) ∧ w.cell? ⟨g, 17, none⟩ = some (.int .i64 x.t.el) := by
  refine ⟨Blk.at h 0, Blk.at h 1, Blk.at h 2, Blk.at h 3, Blk.at h 4, Blk.at h 5, Blk.at h 6, Blk.at h 7, Blk.at h 8, Blk.at h 9, Blk.at h 10, Blk.at h 11, Blk.at h 12, Blk.at h 13, Blk.at h 14, Blk.at h 15, Blk.at h 16, Blk.at h 17⟩
theorem nbox_new (w : World) (x : NV) : Below w.heap.size w (w.alloc (.cells x.cells.toArray 49)) ∧ Blk (w.alloc (.cells x.cells.toArray 49)) w.heap.size 49 x.cells :=
  ⟨(Below.refl _ _).alloc (Nat.le_refl _) _, heap_alloc_new w _⟩
def nvZ : NV := ⟨⟨0, 0, false, false, false, 0, 0, ⟨#[]⟩, ⟨#[]⟩, 0, 0, [], [], [], ⟨#[]⟩, 0, [], 0⟩, SV.nil, SV.nil, SV.nil, SV.nil⟩
end Go.Proofs.Ythjfhenldkihkaa
