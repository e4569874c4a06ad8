/- spec: memory that may have changed; owned rows. -/
import Derived.Test.YtfcccfplmdjndaaGreatTrA
import Derived.Laws.MakeOwn
import Derived.Laws.IdiomStrings
import Derived.Laws.OwnMore
import Derived.Deep.MidRow
import Derived.Laws.Rows
import Derived.Deep.Cut
import Derived.Deep.RegionHeld3
import Derived.Deep.RegionWith
import Derived.OwnWalk
import Derived.Laws.StructEq
namespace Go.Proofs.YtfcccfplmdjndaaGreat
set_option linter.unusedSimpArgs false
set_option linter.unusedVariables false
open Go.RowKit

section
variable {a b c : World} {S T : Nat → Prop}
end

end Go.Proofs.YtfcccfplmdjndaaGreat

/- spec: types, names and specifications as data. -/
namespace Go.Proofs.YtfcccfplmdjndaaGreat
set_option linter.unusedSimpArgs false
set_option linter.unusedVariables false
open Go.RowKit

structure FT where
 nm : ByteArray
 ty : Int
 dv : Int
 o : ByteArray
 to : ByteArray
def FT.cells (f : FT) : List Value := [.string f.nm, .int .i64 f.ty, .int .i64 f.dv, .string f.o, .string f.to]
structure CT where
 v : Nat
 ty : Int
def CT.cells (x : CT) : List Value := [.int .u64 (x.v : Int), .int .i64 x.ty]
structure DT where
 nm : ByteArray
 ty : Int
def DT.cells (x : DT) : List Value := [.string x.nm, .int .i64 x.ty]
structure NT where
 k : Int
 wd : Int
 li : Bool
 zg : Bool
 le : Bool
 mn : Nat
 mx : Nat
 tx : ByteArray
 er : ByteArray
 mu : Nat
 ad : Nat
 ks : List Int
 ls : List Bool
 fs : List FT
 rg : ByteArray
 md : Nat
 cs : List CT
 el : Int
structure NV where
 t : NT
 K : SV
 L : SV
 F : SV
 C : SV
def NV.cells (x : NV) : List Value := [.int .i64 x.t.k, .int .i64 x.t.wd, .bool x.t.li, .bool x.t.zg, .bool x.t.le, .int .u64 (x.t.mn : Int), .int .u64 (x.t.mx : Int), .string x.t.tx, .string x.t.er, .int .u64 (x.t.mu : Int), .int .u64 (x.t.ad : Int), .slice x.K.A x.K.n x.K.c, .slice x.L.A x.L.n x.L.c, .slice x.F.A x.F.n x.F.c, .string x.t.rg, .int .u64 (x.t.md : Int), .slice x.C.A x.C.n x.C.c, .int .i64 x.t.el]
def NV.val (x : NV) : Value := .agg #[.int .i64 x.t.k, .int .i64 x.t.wd, .bool x.t.li, .bool x.t.zg, .bool x.t.le, .int .u64 (x.t.mn : Int), .int .u64 (x.t.mx : Int), .string x.t.tx, .string x.t.er, .int .u64 (x.t.mu : Int), .int .u64 (x.t.ad : Int), .slice x.K.A x.K.n x.K.c, .slice x.L.A x.L.n x.L.c, .slice x.F.A x.F.n x.F.c, .string x.t.rg, .int .u64 (x.t.md : Int), .slice x.C.A x.C.n x.C.c, .int .i64 x.t.el]
theorem NV.val_eq (x : NV) : x.val = .agg x.cells.toArray := rfl
theorem NV.len (x : NV) : x.cells.length = 18 := rfl
theorem nv_one (x : NV) : x.cells.toArray.all (·.oneCell') = true := by simp [NV.cells, Value.oneCell']
theorem nv_ones (x : NV) : ∀ u ∈ x.cells, u.oneCell' = true := by
 have := nv_one x
 simpa using this
def intC (l : List Int) : List Value := l.map (Value.int .i64)
def boolC (l : List Bool) : List Value := l.map Value.bool
def flatF (l : List FT) : List Value := l.flatMap FT.cells
def flatC (l : List CT) : List Value := l.flatMap CT.cells
def flatD (l : List DT) : List Value := l.flatMap DT.cells
def flatN (l : List NV) : List Value := l.flatMap NV.cells

section
variable {α : Type} {f : α → List Value} {m : Nat}
end
theorem flatF_len (l : List FT) : (flatF l).length = l.length * 5 := flat_len (f := FT.cells) (fun _ => rfl) l
theorem flatC_len (l : List CT) : (flatC l).length = l.length * 2 := flat_len (f := CT.cells) (fun _ => rfl) l
theorem flatD_len (l : List DT) : (flatD l).length = l.length * 2 := flat_len (f := DT.cells) (fun _ => rfl) l
theorem flatN_len (l : List NV) : (flatN l).length = l.length * 18 := flat_len (f := NV.cells) (fun _ => rfl) l
theorem intC_len (l : List Int) : (intC l).length = l.length := by simp [intC]
theorem boolC_len (l : List Bool) : (boolC l).length = l.length := by simp [boolC]
theorem ones_int (l : List Int) : ∀ u ∈ intC l, u.oneCell' = true := by
 intro u hu
 obtain ⟨c, _, rfl⟩ := List.mem_map.1 hu
 rfl
theorem ones_bool (l : List Bool) : ∀ u ∈ boolC l, u.oneCell' = true := by
 intro u hu
 obtain ⟨c, _, rfl⟩ := List.mem_map.1 hu
 rfl
theorem ones_F (l : List FT) : ∀ u ∈ flatF l, u.oneCell' = true := by
 intro u hu
 obtain ⟨c, _, hu⟩ := List.mem_flatMap.1 hu
 simp only [FT.cells, List.mem_cons, List.not_mem_nil, or_false] at hu
 rcases hu with rfl | rfl | rfl | rfl | rfl <;> rfl
theorem ones_C (l : List CT) : ∀ u ∈ flatC l, u.oneCell' = true := by
 intro u hu
 obtain ⟨c, _, hu⟩ := List.mem_flatMap.1 hu
 simp only [CT.cells, List.mem_cons, List.not_mem_nil, or_false] at hu
 rcases hu with rfl | rfl <;> rfl
theorem ones_D (l : List DT) : ∀ u ∈ flatD l, u.oneCell' = true := by
 intro u hu
 obtain ⟨c, _, hu⟩ := List.mem_flatMap.1 hu
 simp only [DT.cells, List.mem_cons, List.not_mem_nil, or_false] at hu
 rcases hu with rfl | rfl <;> rfl
theorem ones_N (l : List NV) : ∀ u ∈ flatN l, u.oneCell' = true := by
 intro u hu
 obtain ⟨c, _, hu⟩ := List.mem_flatMap.1 hu
 exact nv_ones c u hu

structure NodeOk (w : World) (P : Nat → Prop) (x : NV) : Prop where
 kn : x.K.n = x.t.ks.length
 ln : x.L.n = x.t.ls.length
 fn : x.F.n = x.t.fs.length
 cn : x.C.n = x.t.cs.length
 k : Rw w P x.K (intC x.t.ks)
 l : Rw w P x.L (boolC x.t.ls)
 f : Rw w P x.F (flatF x.t.fs)
 c : Rw w P x.C (flatC x.t.cs)
theorem NodeOk.mono {w w' : World} {P Q : Nat → Prop} {x : NV} (h : NodeOk w P x) (hb : ∀ b, P b → b < w.heap.size → w'.heap[b]? = w.heap[b]?) (hs : w.heap.size ≤ w'.heap.size) (hPQ : ∀ b, P b → b < w.heap.size → Q b) : NodeOk w' Q x :=
 ⟨h.kn, h.ln, h.fn, h.cn, h.k.mono hb hs hPQ, h.l.mono hb hs hPQ, h.f.mono hb hs hPQ, h.c.mono hb hs hPQ⟩
theorem NodeOk.keep {w w' : World} {P : Nat → Prop} {x : NV} (h : NodeOk w P x) (hb : Below w.heap.size w w') : NodeOk w' P x :=
 h.mono (fun b _ hl => hb.block b hl) hb.size (fun _ h _ => h)
structure SpV where
 vs : List NV
 ds : List DT
 N : SV
 D : SV
def SpV.cells (x : SpV) : List Value := [.slice x.N.A x.N.n x.N.c, .slice x.D.A x.D.n x.D.c]
def SpV.val (x : SpV) : Value := .agg #[.slice x.N.A x.N.n x.N.c, .slice x.D.A x.D.n x.D.c]
def SpV.ts (x : SpV) : List NT := x.vs.map NV.t
structure SpecOk (w : World) (P : Nat → Prop) (x : SpV) : Prop where
 nn : x.N.n = x.vs.length
 dn : x.D.n = x.ds.length
 n : Rw w P x.N (flatN x.vs)
 d : Rw w P x.D (flatD x.ds)
 each : ∀ v ∈ x.vs, NodeOk w P v
theorem SpecOk.mono {w w' : World} {P Q : Nat → Prop} {x : SpV} (h : SpecOk w P x) (hb : ∀ b, P b → b < w.heap.size → w'.heap[b]? = w.heap[b]?) (hs : w.heap.size ≤ w'.heap.size) (hPQ : ∀ b, P b → b < w.heap.size → Q b) : SpecOk w' Q x :=
 ⟨h.nn, h.dn, h.n.mono hb hs hPQ, h.d.mono hb hs hPQ, fun v hv => (h.each v hv).mono hb hs hPQ⟩
theorem SpecOk.keep {w w' : World} {P : Nat → Prop} {x : SpV} (h : SpecOk w P x) (hb : Below w.heap.size w w') : SpecOk w' P x :=
 h.mono (fun b _ hl => hb.block b hl) hb.size (fun _ h _ => h)

theorem nv_size (x : NV) : (Tryz.prog.info? 54).map (·.size) = some x.cells.toArray.size := by
 rw [show x.cells.toArray.size = 18 from rfl]; kernel_rfl
theorem info_int : (Tryz.prog.info? 3).map (fun i => (i.zero, i.size, i.bytes)) = some (some (.int .i64 0), 1, 8) := by kernel_rfl
theorem info_bool : (Tryz.prog.info? 4).map (fun i => (i.zero, i.size, i.bytes)) = some (some (.bool false), 1, 1) := by kernel_rfl
theorem info_field : (Tryz.prog.info? 64).map (fun i => (i.zero, i.size, i.bytes)) = some (some (.agg #[.string ⟨#[]⟩, .int .i64 0, .int .i64 0, .string ⟨#[]⟩, .string ⟨#[]⟩]), 5, 64) := by kernel_rfl
theorem info_case : (Tryz.prog.info? 121).map (fun i => (i.zero, i.size, i.bytes)) = some (some (.agg #[.int .u64 0, .int .i64 0]), 2, 16) := by kernel_rfl
theorem info_def : (Tryz.prog.info? 43).map (fun i => (i.zero, i.size, i.bytes)) = some (some (.agg #[.string ⟨#[]⟩, .int .i64 0]), 2, 24) := by kernel_rfl
end Go.Proofs.YtfcccfplmdjndaaGreat

/- spec: a list copied, whatever its elements. -/
namespace Go.Proofs.YtfcccfplmdjndaaGreat
set_option linter.unusedSimpArgs false
set_option linter.unusedVariables false
open Go.RowKit

end Go.Proofs.YtfcccfplmdjndaaGreat

/- spec: own, type by type. -/
namespace Go.Proofs.YtfcccfplmdjndaaGreat
set_option linter.unusedSimpArgs false
set_option linter.unusedVariables false
open Go.RowKit

theorem info_nodez : (Tryz.prog.info? 54).map (fun i => (i.zero, i.size, i.bytes)) = some (some (.agg #[.int .i64 0, .int .i64 0, .bool false, .bool false, .bool false, .int .u64 0, .int .u64 0, .string ⟨#[]⟩, .string ⟨#[]⟩, .int .u64 0, .int .u64 0, .slice none 0 0, .slice none 0 0, .slice none 0 0, .string ⟨#[]⟩, .int .u64 0, .slice none 0 0, .int .i64 0]), 18, 216) := by kernel_rfl
theorem mk_int (n : Nat) (hn : n ≤ 1048576) (w : World) : ∃ cs : Array Value, cs.size = n * 1 ∧ (Instr.makeSlice 49 (.int .i64 (n : Int)) (.int .i64 (n : Int))).run Tryz.prog w = .ok (.slice (some ⟨w.heap.size, 0, none⟩) n n) (w.alloc (.cells cs 3)) := by
 obtain ⟨i0, hi, hz0, hz1, hz2⟩ := info_parts info_int
 have hr := run_make (P := Tryz.prog) w 49 3 i0 _ Tryz.underlying49 hi hz0 .i64 .i64 n n (by omega) (by omega) (by rw [hz2]; omega) (by omega)
 rw [hz1] at hr
 simp only [Int.toNat_natCast] at hr
 exact ⟨_, size_madeCells _ _, hr⟩
set_option maxRecDepth 100000 in
set_option maxHeartbeats 1000000 in
theorem own_int (P : Nat → Prop) (s : SV) (xs : List Value) (w : World) (h : Rw w P s xs) (hn : s.n * 1 = xs.length) (hl : s.n ≤ 1048576) (h1 : ∀ u ∈ xs, u.oneCell' = true) : Calls Tryz.prog 71 #[s.val] w (OwnR 3 xs s w) := by
 obtain ⟨A, n, c⟩ := s
 unfold SV.val
 simp only at hn hl ⊢
 rcases A with _ | ad
 ·have hx : xs = [] := h.1 rfl
  have HX := hid hx
  have hq := run_eql_slice_nil (P := Tryz.prog) w 49 3 none n c Tryz.underlying49
  have HN := hid hn
  clear h hn hx h1
  go_enter Tryz.func71, Tryz.ntmps71
  go_wp2
  go_ret
  have hn := HN.out
  rw [HX.out] at hn
  have hn0 : n = 0 := by simp at hn; omega
  subst hn0
  exact ⟨SV.nil, rfl, rfl, Below.refl _ _, .inl ⟨rfl, rfl, HX.out⟩⟩
 ·obtain ⟨cs, hcs, hmk⟩ := mk_int n hl w
  have hq := run_eql_slice_nil (P := Tryz.prog) w 49 3 (some ad) n c Tryz.underlying49
  have HB := hid ((Below.refl w.heap.size w).alloc (Nat.le_refl _) (.cells cs 3))
  have HG := hid (heap_alloc_new w (.cells cs 3))
  have HR := hid (h.keep ((Below.refl w.heap.size w).alloc (Nat.le_refl _) (.cells cs 3)))
  have HS := hid (show (w.alloc (.cells cs 3)).heap.size = w.heap.size + 1 by simp)
  have HN := hid hn
  have HC := hid hcs
  have H1 := hid h1
  clear h hn hl h1 hcs
  go_enter Tryz.func71, Tryz.ntmps71
  go_upto_region 4 with (fail)
  generalize hw1 : w.alloc (.cells cs 3) = w1 at *
  clear hmk
  go_wp2_with (refine wpList_copyF rfl _ _ 49 3 rfl Tryz.underlying49 1 (size_of_info info_int) w.heap.size n c (some ad) rfl rfl P xs HR.out HN.out (by decide) cs HG.out HC.out H1.out ?_; intro w2 hb2 hg2 hs2)
  go_ret
  refine ⟨⟨some ⟨w.heap.size, 0, none⟩, n, n⟩, rfl, rfl, ?_, .inr ⟨rfl, hb2.out, hs2.out.trans HS.out⟩⟩
  exact HB.out.grown hg2.out (by rw [HS.out]; omega) (fun k hk => by injection hk with hk; omega)

theorem mk_bool (n : Nat) (hn : n ≤ 1048576) (w : World) : ∃ cs : Array Value, cs.size = n * 1 ∧ (Instr.makeSlice 50 (.int .i64 (n : Int)) (.int .i64 (n : Int))).run Tryz.prog w = .ok (.slice (some ⟨w.heap.size, 0, none⟩) n n) (w.alloc (.cells cs 4)) := by
 obtain ⟨i0, hi, hz0, hz1, hz2⟩ := info_parts info_bool
 have hr := run_make (P := Tryz.prog) w 50 4 i0 _ Tryz.underlying50 hi hz0 .i64 .i64 n n (by omega) (by omega) (by rw [hz2]; omega) (by omega)
 rw [hz1] at hr
 simp only [Int.toNat_natCast] at hr
 exact ⟨_, size_madeCells _ _, hr⟩
set_option maxRecDepth 100000 in
set_option maxHeartbeats 1000000 in
theorem own_bool (P : Nat → Prop) (s : SV) (xs : List Value) (w : World) (h : Rw w P s xs) (hn : s.n * 1 = xs.length) (hl : s.n ≤ 1048576) (h1 : ∀ u ∈ xs, u.oneCell' = true) : Calls Tryz.prog 72 #[s.val] w (OwnR 4 xs s w) := by
 obtain ⟨A, n, c⟩ := s
 unfold SV.val
 simp only at hn hl ⊢
 rcases A with _ | ad
 ·have hx : xs = [] := h.1 rfl
  have HX := hid hx
  have hq := run_eql_slice_nil (P := Tryz.prog) w 50 4 none n c Tryz.underlying50
  have HN := hid hn
  clear h hn hx h1
  go_enter Tryz.func72, Tryz.ntmps72
  go_wp2
  go_ret
  have hn := HN.out
  rw [HX.out] at hn
  have hn0 : n = 0 := by simp at hn; omega
  subst hn0
  exact ⟨SV.nil, rfl, rfl, Below.refl _ _, .inl ⟨rfl, rfl, HX.out⟩⟩
 ·obtain ⟨cs, hcs, hmk⟩ := mk_bool n hl w
  have hq := run_eql_slice_nil (P := Tryz.prog) w 50 4 (some ad) n c Tryz.underlying50
  have HB := hid ((Below.refl w.heap.size w).alloc (Nat.le_refl _) (.cells cs 4))
  have HG := hid (heap_alloc_new w (.cells cs 4))
  have HR := hid (h.keep ((Below.refl w.heap.size w).alloc (Nat.le_refl _) (.cells cs 4)))
  have HS := hid (show (w.alloc (.cells cs 4)).heap.size = w.heap.size + 1 by simp)
  have HN := hid hn
  have HC := hid hcs
  have H1 := hid h1
  clear h hn hl h1 hcs
  go_enter Tryz.func72, Tryz.ntmps72
  go_upto_region 4 with (fail)
  generalize hw1 : w.alloc (.cells cs 4) = w1 at *
  clear hmk
  go_wp2_with (refine wpList_copyF rfl _ _ 50 4 rfl Tryz.underlying50 1 (size_of_info info_bool) w.heap.size n c (some ad) rfl rfl P xs HR.out HN.out (by decide) cs HG.out HC.out H1.out ?_; intro w2 hb2 hg2 hs2)
  go_ret
  refine ⟨⟨some ⟨w.heap.size, 0, none⟩, n, n⟩, rfl, rfl, ?_, .inr ⟨rfl, hb2.out, hs2.out.trans HS.out⟩⟩
  exact HB.out.grown hg2.out (by rw [HS.out]; omega) (fun k hk => by injection hk with hk; omega)

theorem mk_Field (n : Nat) (hn : n ≤ 1048576) (w : World) : ∃ cs : Array Value, cs.size = n * 5 ∧ (Instr.makeSlice 51 (.int .i64 (n : Int)) (.int .i64 (n : Int))).run Tryz.prog w = .ok (.slice (some ⟨w.heap.size, 0, none⟩) n n) (w.alloc (.cells cs 64)) := by
 obtain ⟨i0, hi, hz0, hz1, hz2⟩ := info_parts info_field
 have hr := run_make (P := Tryz.prog) w 51 64 i0 _ Tryz.underlying51 hi hz0 .i64 .i64 n n (by omega) (by omega) (by rw [hz2]; omega) (by omega)
 rw [hz1] at hr
 simp only [Int.toNat_natCast] at hr
 exact ⟨_, size_madeCells _ _, hr⟩
set_option maxRecDepth 100000 in
set_option maxHeartbeats 1000000 in
theorem own_Field (P : Nat → Prop) (s : SV) (xs : List Value) (w : World) (h : Rw w P s xs) (hn : s.n * 5 = xs.length) (hl : s.n ≤ 1048576) (h1 : ∀ u ∈ xs, u.oneCell' = true) : Calls Tryz.prog 73 #[s.val] w (OwnR 64 xs s w) := by
 obtain ⟨A, n, c⟩ := s
 unfold SV.val
 simp only at hn hl ⊢
 rcases A with _ | ad
 ·have hx : xs = [] := h.1 rfl
  have HX := hid hx
  have hq := run_eql_slice_nil (P := Tryz.prog) w 51 64 none n c Tryz.underlying51
  have HN := hid hn
  clear h hn hx h1
  go_enter Tryz.func73, Tryz.ntmps73
  go_wp2
  go_ret
  have hn := HN.out
  rw [HX.out] at hn
  have hn0 : n = 0 := by simp at hn; omega
  subst hn0
  exact ⟨SV.nil, rfl, rfl, Below.refl _ _, .inl ⟨rfl, rfl, HX.out⟩⟩
 ·obtain ⟨cs, hcs, hmk⟩ := mk_Field n hl w
  have hq := run_eql_slice_nil (P := Tryz.prog) w 51 64 (some ad) n c Tryz.underlying51
  have HB := hid ((Below.refl w.heap.size w).alloc (Nat.le_refl _) (.cells cs 64))
  have HG := hid (heap_alloc_new w (.cells cs 64))
  have HR := hid (h.keep ((Below.refl w.heap.size w).alloc (Nat.le_refl _) (.cells cs 64)))
  have HS := hid (show (w.alloc (.cells cs 64)).heap.size = w.heap.size + 1 by simp)
  have HN := hid hn
  have HC := hid hcs
  have H1 := hid h1
  clear h hn hl h1 hcs
  go_enter Tryz.func73, Tryz.ntmps73
  go_upto_region 4 with (fail)
  generalize hw1 : w.alloc (.cells cs 64) = w1 at *
  clear hmk
  go_wp2_with (refine wpList_copyF rfl _ _ 51 64 rfl Tryz.underlying51 5 (size_of_info info_field) w.heap.size n c (some ad) rfl rfl P xs HR.out HN.out (by decide) cs HG.out HC.out H1.out ?_; intro w2 hb2 hg2 hs2)
  go_ret
  refine ⟨⟨some ⟨w.heap.size, 0, none⟩, n, n⟩, rfl, rfl, ?_, .inr ⟨rfl, hb2.out, hs2.out.trans HS.out⟩⟩
  exact HB.out.grown hg2.out (by rw [HS.out]; omega) (fun k hk => by injection hk with hk; omega)

theorem mk_Case (n : Nat) (hn : n ≤ 1048576) (w : World) : ∃ cs : Array Value, cs.size = n * 2 ∧ (Instr.makeSlice 52 (.int .i64 (n : Int)) (.int .i64 (n : Int))).run Tryz.prog w = .ok (.slice (some ⟨w.heap.size, 0, none⟩) n n) (w.alloc (.cells cs 121)) := by
 obtain ⟨i0, hi, hz0, hz1, hz2⟩ := info_parts info_case
 have hr := run_make (P := Tryz.prog) w 52 121 i0 _ Tryz.underlying52 hi hz0 .i64 .i64 n n (by omega) (by omega) (by rw [hz2]; omega) (by omega)
 rw [hz1] at hr
 simp only [Int.toNat_natCast] at hr
 exact ⟨_, size_madeCells _ _, hr⟩
set_option maxRecDepth 100000 in
set_option maxHeartbeats 1000000 in
theorem own_Case (P : Nat → Prop) (s : SV) (xs : List Value) (w : World) (h : Rw w P s xs) (hn : s.n * 2 = xs.length) (hl : s.n ≤ 1048576) (h1 : ∀ u ∈ xs, u.oneCell' = true) : Calls Tryz.prog 74 #[s.val] w (OwnR 121 xs s w) := by
 obtain ⟨A, n, c⟩ := s
 unfold SV.val
 simp only at hn hl ⊢
 rcases A with _ | ad
 ·have hx : xs = [] := h.1 rfl
  have HX := hid hx
  have hq := run_eql_slice_nil (P := Tryz.prog) w 52 121 none n c Tryz.underlying52
  have HN := hid hn
  clear h hn hx h1
  go_enter Tryz.func74, Tryz.ntmps74
  go_wp2
  go_ret
  have hn := HN.out
  rw [HX.out] at hn
  have hn0 : n = 0 := by simp at hn; omega
  subst hn0
  exact ⟨SV.nil, rfl, rfl, Below.refl _ _, .inl ⟨rfl, rfl, HX.out⟩⟩
 ·obtain ⟨cs, hcs, hmk⟩ := mk_Case n hl w
  have hq := run_eql_slice_nil (P := Tryz.prog) w 52 121 (some ad) n c Tryz.underlying52
  have HB := hid ((Below.refl w.heap.size w).alloc (Nat.le_refl _) (.cells cs 121))
  have HG := hid (heap_alloc_new w (.cells cs 121))
  have HR := hid (h.keep ((Below.refl w.heap.size w).alloc (Nat.le_refl _) (.cells cs 121)))
  have HS := hid (show (w.alloc (.cells cs 121)).heap.size = w.heap.size + 1 by simp)
  have HN := hid hn
  have HC := hid hcs
  have H1 := hid h1
  clear h hn hl h1 hcs
  go_enter Tryz.func74, Tryz.ntmps74
  go_upto_region 4 with (fail)
  generalize hw1 : w.alloc (.cells cs 121) = w1 at *
  clear hmk
  go_wp2_with (refine wpList_copyF rfl _ _ 52 121 rfl Tryz.underlying52 2 (size_of_info info_case) w.heap.size n c (some ad) rfl rfl P xs HR.out HN.out (by decide) cs HG.out HC.out H1.out ?_; intro w2 hb2 hg2 hs2)
  go_ret
  refine ⟨⟨some ⟨w.heap.size, 0, none⟩, n, n⟩, rfl, rfl, ?_, .inr ⟨rfl, hb2.out, hs2.out.trans HS.out⟩⟩
  exact HB.out.grown hg2.out (by rw [HS.out]; omega) (fun k hk => by injection hk with hk; omega)

theorem mk_Def (n : Nat) (hn : n ≤ 1048576) (w : World) : ∃ cs : Array Value, cs.size = n * 2 ∧ (Instr.makeSlice 30 (.int .i64 (n : Int)) (.int .i64 (n : Int))).run Tryz.prog w = .ok (.slice (some ⟨w.heap.size, 0, none⟩) n n) (w.alloc (.cells cs 43)) := by
 obtain ⟨i0, hi, hz0, hz1, hz2⟩ := info_parts info_def
 have hr := run_make (P := Tryz.prog) w 30 43 i0 _ Tryz.underlying30 hi hz0 .i64 .i64 n n (by omega) (by omega) (by rw [hz2]; omega) (by omega)
 rw [hz1] at hr
 simp only [Int.toNat_natCast] at hr
 exact ⟨_, size_madeCells _ _, hr⟩
set_option maxRecDepth 100000 in
set_option maxHeartbeats 1000000 in
theorem own_Def (P : Nat → Prop) (s : SV) (xs : List Value) (w : World) (h : Rw w P s xs) (hn : s.n * 2 = xs.length) (hl : s.n ≤ 1048576) (h1 : ∀ u ∈ xs, u.oneCell' = true) : Calls Tryz.prog 76 #[s.val] w (OwnR 43 xs s w) := by
 obtain ⟨A, n, c⟩ := s
 unfold SV.val
 simp only at hn hl ⊢
 rcases A with _ | ad
 ·have hx : xs = [] := h.1 rfl
  have HX := hid hx
  have hq := run_eql_slice_nil (P := Tryz.prog) w 30 43 none n c Tryz.underlying30
  have HN := hid hn
  clear h hn hx h1
  go_enter Tryz.func76, Tryz.ntmps76
  go_wp2
  go_ret
  have hn := HN.out
  rw [HX.out] at hn
  have hn0 : n = 0 := by simp at hn; omega
  subst hn0
  exact ⟨SV.nil, rfl, rfl, Below.refl _ _, .inl ⟨rfl, rfl, HX.out⟩⟩
 ·obtain ⟨cs, hcs, hmk⟩ := mk_Def n hl w
  have hq := run_eql_slice_nil (P := Tryz.prog) w 30 43 (some ad) n c Tryz.underlying30
  have HB := hid ((Below.refl w.heap.size w).alloc (Nat.le_refl _) (.cells cs 43))
  have HG := hid (heap_alloc_new w (.cells cs 43))
  have HR := hid (h.keep ((Below.refl w.heap.size w).alloc (Nat.le_refl _) (.cells cs 43)))
  have HS := hid (show (w.alloc (.cells cs 43)).heap.size = w.heap.size + 1 by simp)
  have HN := hid hn
  have HC := hid hcs
  have H1 := hid h1
  clear h hn hl h1 hcs
  go_enter Tryz.func76, Tryz.ntmps76
  go_upto_region 4 with (fail)
  generalize hw1 : w.alloc (.cells cs 43) = w1 at *
  clear hmk
  go_wp2_with (refine wpList_copyF rfl _ _ 30 43 rfl Tryz.underlying30 2 (size_of_info info_def) w.heap.size n c (some ad) rfl rfl P xs HR.out HN.out (by decide) cs HG.out HC.out H1.out ?_; intro w2 hb2 hg2 hs2)
  go_ret
  refine ⟨⟨some ⟨w.heap.size, 0, none⟩, n, n⟩, rfl, rfl, ?_, .inr ⟨rfl, hb2.out, hs2.out.trans HS.out⟩⟩
  exact HB.out.grown hg2.out (by rw [HS.out]; omega) (fun k hk => by injection hk with hk; omega)

theorem mk_Node (n : Nat) (hn : n ≤ 1048576) (w : World) : ∃ cs : Array Value, cs.size = n * 18 ∧ (Instr.makeSlice 29 (.int .i64 (n : Int)) (.int .i64 (n : Int))).run Tryz.prog w = .ok (.slice (some ⟨w.heap.size, 0, none⟩) n n) (w.alloc (.cells cs 54)) := by
 obtain ⟨i0, hi, hz0, hz1, hz2⟩ := info_parts info_nodez
 have hr := run_make (P := Tryz.prog) w 29 54 i0 _ Tryz.underlying29 hi hz0 .i64 .i64 n n (by omega) (by omega) (by rw [hz2]; omega) (by omega)
 rw [hz1] at hr
 simp only [Int.toNat_natCast] at hr
 exact ⟨_, size_madeCells _ _, hr⟩
set_option maxRecDepth 100000 in
set_option maxHeartbeats 1000000 in
theorem own_Node (P : Nat → Prop) (s : SV) (xs : List Value) (w : World) (h : Rw w P s xs) (hn : s.n * 18 = xs.length) (hl : s.n ≤ 1048576) (h1 : ∀ u ∈ xs, u.oneCell' = true) : Calls Tryz.prog 75 #[s.val] w (OwnR 54 xs s w) := by
 obtain ⟨A, n, c⟩ := s
 unfold SV.val
 simp only at hn hl ⊢
 rcases A with _ | ad
 ·have hx : xs = [] := h.1 rfl
  have HX := hid hx
  have hq := run_eql_slice_nil (P := Tryz.prog) w 29 54 none n c Tryz.underlying29
  have HN := hid hn
  clear h hn hx h1
  go_enter Tryz.func75, Tryz.ntmps75
  go_wp2
  go_ret
  have hn := HN.out
  rw [HX.out] at hn
  have hn0 : n = 0 := by simp at hn; omega
  subst hn0
  exact ⟨SV.nil, rfl, rfl, Below.refl _ _, .inl ⟨rfl, rfl, HX.out⟩⟩
 ·obtain ⟨cs, hcs, hmk⟩ := mk_Node n hl w
  have hq := run_eql_slice_nil (P := Tryz.prog) w 29 54 (some ad) n c Tryz.underlying29
  have HB := hid ((Below.refl w.heap.size w).alloc (Nat.le_refl _) (.cells cs 54))
  have HG := hid (heap_alloc_new w (.cells cs 54))
  have HR := hid (h.keep ((Below.refl w.heap.size w).alloc (Nat.le_refl _) (.cells cs 54)))
  have HS := hid (show (w.alloc (.cells cs 54)).heap.size = w.heap.size + 1 by simp)
  have HN := hid hn
  have HC := hid hcs
  have H1 := hid h1
  clear h hn hl h1 hcs
  go_enter Tryz.func75, Tryz.ntmps75
  go_upto_region 4 with (fail)
  generalize hw1 : w.alloc (.cells cs 54) = w1 at *
  clear hmk
  go_wp2_with (refine wpList_copyF rfl _ _ 29 54 rfl Tryz.underlying29 18 (size_of_info info_nodez) w.heap.size n c (some ad) rfl rfl P xs HR.out HN.out (by decide) cs HG.out HC.out H1.out ?_; intro w2 hb2 hg2 hs2)
  go_ret
  refine ⟨⟨some ⟨w.heap.size, 0, none⟩, n, n⟩, rfl, rfl, ?_, .inr ⟨rfl, hb2.out, hs2.out.trans HS.out⟩⟩
  exact HB.out.grown hg2.out (by rw [HS.out]; omega) (fun k hk => by injection hk with hk; omega)
end Go.Proofs.YtfcccfplmdjndaaGreat

/- spec: Own. -/
namespace Go.Proofs.YtfcccfplmdjndaaGreat
set_option linter.unusedSimpArgs false
set_option linter.unusedVariables false
open Go.RowKit

def OwnL (w : World) (base : Nat) (T : TypeId) (s : SV) (xs : List Value) : Prop :=
 (s = SV.nil ∧ xs = []) ∨ ∃ g, s = ⟨some ⟨g, 0, none⟩, s.n, s.n⟩ ∧ base ≤ g ∧ Blk w g T xs
theorem OwnL.keep {w w' : World} {base : Nat} {T : TypeId} {s : SV} {xs : List Value} (h : OwnL w base T s xs) (hb : Below w.heap.size w w') : OwnL w' base T s xs := by
 rcases h with h | ⟨g, e, hg, hB⟩
 ·exact .inl h
 ·exact .inr ⟨g, e, hg, hB.keep hb⟩
theorem OwnL.rw_ {w : World} {base : Nat} {T : TypeId} {s : SV} {xs : List Value} (h : OwnL w base T s xs) : Rw w (base ≤ ·) s xs := by
 rcases h with ⟨rfl, rfl⟩ | ⟨g, e, hg, hB⟩
 ·exact Rw.nil _ _ _
 ·have hA : s.A = some ⟨g, 0, none⟩ := congrArg SV.A e
  refine ⟨fun h => ?_, fun _ => ⟨g, 0, hA, hB.lt, hg, fun j hj => ?_⟩⟩
  ·rw [hA] at h; cases h
  ·rw [Nat.zero_add, Blk.at hB, List.getElem?_eq_getElem hj]
theorem OwnL.of {w w' : World} {T : TypeId} {s s' : SV} {xs : List Value} (hn : s'.n = s.n) (h : (s.A = none ∧ s' = SV.nil ∧ xs = []) ∨ (s' = ⟨some ⟨w.heap.size, 0, none⟩, s.n, s.n⟩ ∧ Blk w' w.heap.size T xs ∧ w'.heap.size = w.heap.size + 1)) (base : Nat) (hb : base ≤ w.heap.size) : OwnL w' base T s' xs := by
 rcases h with ⟨_, h1, h2⟩ | ⟨h1, h2, _⟩
 ·exact .inl ⟨h1, h2⟩
 ·exact .inr ⟨_, by rw [hn]; exact h1, hb, h2⟩
theorem OwnL.drew {w : World} {base : Nat} {T : TypeId} {s : SV} {xs : List Value} (h : OwnL w base T s xs) : OwnL w.drew base T s xs := h
theorem OwnL.set {w : World} {base : Nat} {T : TypeId} {s : SV} {xs : List Value} (h : OwnL w base T s xs) (g i : Nat) (hg : g < base) (u : Value) : OwnL (w.setCell ⟨g, i, none⟩ u) base T s xs := by
 rcases h with h | ⟨k, e, hk, hB⟩
 ·exact .inl h
 ·exact .inr ⟨k, e, hk, hB.other (by simp only; omega) u⟩
theorem OwnL.base {w : World} {base base' : Nat} {T : TypeId} {s : SV} {xs : List Value} (h : OwnL w base T s xs) (hb : base' ≤ base) : OwnL w base' T s xs := by
 rcases h with h | ⟨k, e, hk, hB⟩
 ·exact .inl h
 ·exact .inr ⟨k, e, Nat.le_trans hb hk, hB⟩
theorem OwnL.row {w : World} {base : Nat} {T : TypeId} {s : SV} {xs : List Value} (h : OwnL w base T s xs) (g : Nat) (hg : g < base) (cs : Array Value) : OwnL (w.setRow g cs) base T s xs := by
 rcases h with h | ⟨k, e, hk, hB⟩
 ·exact .inl h
 ·exact .inr ⟨k, e, hk, (setRow_other w g k cs (by omega)).trans hB⟩
structure NodeOwn (w : World) (base : Nat) (x : NV) : Prop where
 kn : x.K.n = x.t.ks.length
 ln : x.L.n = x.t.ls.length
 fn : x.F.n = x.t.fs.length
 cn : x.C.n = x.t.cs.length
 k : OwnL w base 3 x.K (intC x.t.ks)
 l : OwnL w base 4 x.L (boolC x.t.ls)
 f : OwnL w base 64 x.F (flatF x.t.fs)
 c : OwnL w base 121 x.C (flatC x.t.cs)
theorem NodeOwn.keep {w w' : World} {base : Nat} {x : NV} (h : NodeOwn w base x) (hb : Below w.heap.size w w') : NodeOwn w' base x :=
 ⟨h.kn, h.ln, h.fn, h.cn, h.k.keep hb, h.l.keep hb, h.f.keep hb, h.c.keep hb⟩
theorem NodeOwn.ok {w : World} {base : Nat} {x : NV} (h : NodeOwn w base x) : NodeOk w (base ≤ ·) x :=
 ⟨h.kn, h.ln, h.fn, h.cn, h.k.rw_, h.l.rw_, h.f.rw_, h.c.rw_⟩
theorem NodeOwn.row {w : World} {base : Nat} {x : NV} (h : NodeOwn w base x) (g : Nat) (hg : g < base) (cs : Array Value) : NodeOwn (w.setRow g cs) base x :=
 ⟨h.kn, h.ln, h.fn, h.cn, h.k.row g hg cs, h.l.row g hg cs, h.f.row g hg cs, h.c.row g hg cs⟩
theorem NodeOwn.set {w : World} {base : Nat} {x : NV} (h : NodeOwn w base x) (g i : Nat) (hg : g < base) (u : Value) : NodeOwn (w.setCell ⟨g, i, none⟩ u) base x :=
 ⟨h.kn, h.ln, h.fn, h.cn, h.k.set g i hg u, h.l.set g i hg u, h.f.set g i hg u, h.c.set g i hg u⟩
theorem NodeOwn.base {w : World} {base base' : Nat} {x : NV} (h : NodeOwn w base x) (hb : base' ≤ base) : NodeOwn w base' x :=
 ⟨h.kn, h.ln, h.fn, h.cn, h.k.base hb, h.l.base hb, h.f.base hb, h.c.base hb⟩
structure Fits (x : NV) : Prop where
 k : x.K.n ≤ 1048576
 l : x.L.n ≤ 1048576
 f : x.F.n ≤ 1048576
 c : x.C.n ≤ 1048576
theorem nv_cells {w : World} {g : Nat} {x : NV} (h : Blk w g 54 x.cells) :
  w.cell? ⟨g, 0, none⟩ = some (.int .i64 x.t.k) ∧ w.cell? ⟨g, 1, none⟩ = some (.int .i64 x.t.wd) ∧ w.cell? ⟨g, 2, none⟩ = some (.bool x.t.li) ∧ w.cell? ⟨g, 3, none⟩ = some (.bool x.t.zg) ∧ w.cell? ⟨g, 4, none⟩ = some (.bool x.t.le) ∧ w.cell? ⟨g, 5, none⟩ = some (.int .u64 (x.t.mn : Int)) ∧ w.cell? ⟨g, 6, none⟩ = some (.int .u64 (x.t.mx : Int)) ∧ w.cell? ⟨g, 7, none⟩ = some (.string x.t.tx) ∧ w.cell? ⟨g, 8, none⟩ = some (.string x.t.er) ∧ w.cell? ⟨g, 9, none⟩ = some (.int .u64 (x.t.mu : Int)) ∧ w.cell? ⟨g, 10, none⟩ = some (.int .u64 (x.t.ad : Int)) ∧ w.cell? ⟨g, 11, none⟩ = some (.slice x.K.A x.K.n x.K.c) ∧ w.cell? ⟨g, 12, none⟩ = some (.slice x.L.A x.L.n x.L.c) ∧ w.cell? ⟨g, 13, none⟩ = some (.slice x.F.A x.F.n x.F.c) ∧ w.cell? ⟨g, 14, none⟩ = some (.string x.t.rg) ∧ w.cell? ⟨g, 15, none⟩ = some (.int .u64 (x.t.md : Int)) ∧ w.cell? ⟨g, 16, none⟩ = some (.slice x.C.A x.C.n x.C.c) ∧ w.cell? ⟨g, 17, none⟩ = some (.int .i64 x.t.el) := by
 refine ⟨Blk.at h 0, Blk.at h 1, Blk.at h 2, Blk.at h 3, Blk.at h 4, Blk.at h 5, Blk.at h 6, Blk.at h 7, Blk.at h 8, Blk.at h 9, Blk.at h 10, Blk.at h 11, Blk.at h 12, Blk.at h 13, Blk.at h 14, Blk.at h 15, Blk.at h 16, Blk.at h 17⟩
theorem nbox_new (w : World) (x : NV) : Below w.heap.size w (w.alloc (.cells x.cells.toArray 54)) ∧ Blk (w.alloc (.cells x.cells.toArray 54)) w.heap.size 54 x.cells :=
 ⟨(Below.refl _ _).alloc (Nat.le_refl _) _, heap_alloc_new w _⟩
def nvZ : NV := ⟨⟨0, 0, false, false, false, 0, 0, ⟨#[]⟩, ⟨#[]⟩, 0, 0, [], [], [], ⟨#[]⟩, 0, [], 0⟩, SV.nil, SV.nil, SV.nil, SV.nil⟩
end Go.Proofs.YtfcccfplmdjndaaGreat
