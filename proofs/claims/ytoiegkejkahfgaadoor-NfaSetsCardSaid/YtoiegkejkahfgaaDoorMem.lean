/- make, copy and append of bytes, as laws for the walk; what may have changed of old memory. -/
import Derived.Test.YtoiegkejkahfgaaDoorBase
import Derived.Laws.MakeOwn
import Derived.Laws.IdiomStrings
import Derived.Laws.BytesArg
namespace Go.Proofs.YtoiegkejkahfgaaDoor
set_option linter.unusedVariables false
set_option linter.unusedSimpArgs false
open Go.RowKit

/-- Of old memory only the blocks of S may have changed. -/
structure Chg (w w' : World) (S : Nat → Prop) : Prop where
  os : w'.os = w.os
  tape : w'.tape = w.tape
  output : w'.output = w.output
  size : w.heap.size ≤ w'.heap.size
  block : ∀ k, k < w.heap.size → ¬ S k → w'.heap[k]? = w.heap[k]?

section
variable {a b c : World} {S T : Nat → Prop}
theorem Chg.refl (w : World) (S : Nat → Prop) : Chg w w S := ⟨rfl, rfl, rfl, Nat.le_refl _, fun _ _ _ => rfl⟩
theorem Chg.trans (h : Chg a b S) (k : Chg b c S) : Chg a c S :=
  ⟨k.os.trans h.os, k.tape.trans h.tape, k.output.trans h.output, Nat.le_trans h.size k.size, fun i hi hn => (k.block i (Nat.lt_of_lt_of_le hi h.size) hn).trans (h.block i hi hn)⟩
theorem Chg.more (h : Chg a b S) (hs : ∀ k, k < a.heap.size → S k → T k) : Chg a b T := ⟨h.os, h.tape, h.output, h.size, fun i hi hn => h.block i hi (fun hh => hn (hs i hi hh))⟩
theorem Chg.of_grown {row : Option Nat} (h : a.grownBy b row) : Chg a b (fun k => row = some k) := ⟨h.os, h.tape, h.output, h.size, fun i hi hn => h.block i hi (fun e => hn e.symm)⟩
theorem Chg.of_below (h : Below a.heap.size a b) (S : Nat → Prop) : Chg a b S := ⟨h.os, h.tape, h.output, h.size, fun i hi _ => h.block i hi⟩
theorem Chg.below {B : Nat} {w : World} (h : Below B w a) (k : Chg a b S) (hB : B ≤ a.heap.size) (hS : ∀ j, S j → B ≤ j) : Below B w b :=
  h.trans ⟨k.os, k.tape, k.output, k.size, fun i hi => k.block i (by omega) (fun hs => by have := hS i hs; omega)⟩
theorem Chg.drewN (h : Chg a b S) (n : Nat) : Chg a (b.drewN n) S := ⟨h.os, h.tape, h.output, h.size, h.block⟩
theorem Chg.set (h : Chg a b S) (p i : Nat) (hp : S p) (u : Value) : Chg a (b.setCell ⟨p, i, none⟩ u) S :=
  h.trans ⟨rfl, rfl, rfl, by simp [World.setCell], fun j _ hn => Below.heap_setCell b ⟨p, i, none⟩ u j (fun e => hn (by rw [e]; exact hp))⟩
theorem Blk.chg {g : Nat} {t : TypeId} {cs : List Value} (h : Blk a g t cs) (hc : Chg a b S) (hg : ¬ S g) : Blk b g t cs := (hc.block g h.lt hg).trans h
theorem RdB.chg {A : Option Addr} {n : Nat} {l : List UInt8} (h : RdB a A n l) (hc : Chg a b S) (hA : 0 < n → ∀ x, A = some x → ¬ S x.block) : RdB b A n l := by
  refine ⟨h.1, fun hn => ?_⟩
  obtain ⟨g, o, e, hb, hcell⟩ := h.2 hn
  exact ⟨g, o, e, Nat.lt_of_lt_of_le hb hc.size, fun j hj => (World.cell?_of_block (w := a) (w' := b) (a := ⟨g, o + j, none⟩) (hc.block g hb (hA hn _ e))).trans (hcell j hj)⟩
theorem owns_chg {base : Nat} {e : TypeId} {size : Nat} {v : Value} {n : Nat} {xs : List Value} (h : a.ownsRow base e size v n xs) (hc : Chg a b S) (hv : ∀ k, v.ownBlock = some k → ¬ S k) : b.ownsRow base e size v n xs := by
  refine ⟨h.1, ?_⟩
  rcases h.2 with hn | ⟨g, cap, cur, rfl, hb, hg, r⟩
  · exact .inl hn
  · refine .inr ⟨g, cap, cur, rfl, hb, ?_, r⟩
    rw [hc.block g (Array.getElem?_eq_some_iff.1 hg).1 (hv g rfl)]
    exact hg
end

/-- n bytes that are 0. -/
def zeros (n : Nat) : Array Value := ((List.replicate n (0 : UInt8)).map isB).toArray

theorem info_b : (Tryd.prog.info? 5).map (fun i => (i.zero, i.size, i.bytes)) = some (some (.int .u8 0), 1, 1) := by kernel_rfl
theorem bsize : (Tryd.prog.info? 5).map (·.size) = some 1 := by kernel_rfl

theorem made_zeros (n : Nat) : madeCells (Value.int .u8 0).cells n = zeros n := by
  apply Array.ext_getElem?
  intro i
  by_cases h : i < n <;> simp [madeCells, zeros, isB, Value.cells, h, Nat.mod_one]

theorem run_makeB (n : Nat) (hn : n ≤ 4294967296) (w : World) :
    (Instr.makeSlice 27 (.int .i64 (n : Int)) (.int .i64 (n : Int))).run Tryd.prog w = .ok (.slice (some ⟨w.heap.size, 0, none⟩) n n) (w.alloc (.cells (zeros n) 5)) := by
  obtain ⟨i0, hi, hz0, hz1, hz2⟩ := info_parts info_b
  have hr := run_make (P := Tryd.prog) w 27 5 i0 (.int .u8 0) Tryd.underlying27 hi hz0 .i64 .i64 n n (by omega) (by omega) (by rw [hz2]; omega) (by omega)
  rw [hz1] at hr
  simp only [Int.toNat_natCast, Nat.mul_one, made_zeros] at hr
  exact hr

theorem addr_add (b o j : Nat) : (⟨b, o, none⟩ : Addr).add j = ⟨b, o + j, none⟩ := by
  unfold Addr.add
  split
  · subst_vars; rfl
  · rfl

theorem RdB.src {w : World} {A : Option Addr} {n : Nat} {l : List UInt8} (h : RdB w A n l) (hn : 0 < n) :
    ∃ ad, A = some ad ∧ ∀ j v, (l.map isB)[j]? = some v → w.cell? (ad.add j) = some v := by
  obtain ⟨b, o, rfl, _, hc⟩ := h.2 hn
  refine ⟨_, rfl, fun j v hv => ?_⟩
  obtain ⟨hj, rfl⟩ := List.getElem?_eq_some_iff.1 hv
  rw [addr_add, hc j (by simpa using hj)]
  simp [isB]

theorem one_isB (l : List UInt8) : ∀ v ∈ l.map isB, v.oneCell' = true := by
  intro v hv
  obtain ⟨c, _, rfl⟩ := List.mem_map.1 hv
  rfl

theorem wpList_copyB {w : World} {ops : Array Oper} {rest : List Oper} {o : Oper} {a : Act} {Q : Exit → Act → World → Prop} (hgd : o.guard = none) (d s : Operand)
    (ho : o.op = .call { callee := .builtin .copy, args := #[d, s], argTypes := #[27, 27] })
    (D : Option Addr) (dLen dCap : Nat) (hd : a.eval d = .slice D dLen dCap) (A : Option Addr) (m c : Nat) (hs : a.eval s = .slice A m c)
    (g off : Nat) (cur : List Value) (hg : Blk w g 5 cur) (X : List UInt8) (hX : RdB w A m X) (hD : 0 < m → D = some ⟨g, off, none⟩) (hml : m ≤ dLen) (hfit : off + m ≤ cur.length)
    (h : ∀ w', Hid (Blk w' g 5 (splice cur off (X.map isB))) → w.grownBy w' (some g) → wpList Tryd.prog ops Q rest (a.put o.dst (goInt m)) w') :
    wpList Tryd.prog ops Q (o :: rest) a w := by
  have hlen := hX.1
  have hmin : m.min dLen = m := Nat.min_eq_left hml
  by_cases h0 : m = 0
  · subst h0
    obtain rfl := List.eq_nil_of_length_eq_zero hlen
    refine wpList_copy_nothing hgd d s _ _ ho 5 Tryd.underlying27 bsize D A dLen dCap 0 c hd hs (Nat.zero_min _) ?_
    exact h w (show Blk _ _ _ _ by simpa [splice] using hg) (grown_drewN w 0 _)
  · obtain ⟨ad, rfl, hsrc⟩ := hX.src (by omega)
    obtain rfl := hD (by omega)
    have hl : (X.map isB).length = m := by simpa using hlen
    refine wpList_copy_own hgd d s _ _ ho 5 Tryd.underlying27 bsize g off dLen dCap ad m c hd hs cur.toArray 5 hg (X.map isB) (by rw [hl]; exact hmin.symm) hsrc (by rw [hl]; simpa using hfit) (one_isB X) ?_
    rw [hl]
    refine h _ (show _ = _ by simpa [splice, hl] using setRow_heap w g _ _ 5 _ hg) ⟨rfl, rfl, rfl, by simp [World.setRow], fun k hk hn => setRow_other w g k _ (fun e => hn (by rw [e]))⟩

theorem splice_zeros (n : Nat) (X : List UInt8) (h : X.length = n) : splice (zeros n).toList 0 (X.map isB) = X.map isB := by
  simp [splice, zeros, h]
theorem zeros_len (n : Nat) : (zeros n).toList.length = n := by simp [zeros]
theorem Blk.zeros_ (w : World) (n : Nat) : Blk (w.alloc (.cells (zeros n) 5)) w.heap.size 5 (zeros n).toList := by
  have := Blk.fresh w 5 (zeros n).toList
  simpa using this

/-- A block that was laid and then written: all that was there is as it was. -/
theorem below_fresh {w w2 : World} {o : Obj} (h : (w.alloc o).grownBy w2 (some w.heap.size)) : Below w.heap.size w w2 :=
  ((Below.refl _ _).alloc (Nat.le_refl _) o).grown h (by simp) (fun k hk => by injection hk with hk; omega)

set_option maxRecDepth 4000 in
theorem run_appB (w : World) (base : Nat) (v : Value) (n : Nat) (xs : List Value) (hown : w.ownsRow base 5 1 v n xs) (A : Option Addr) (m c : Nat) (X : List UInt8) (hX : RdB w A m X)
    (hb : n + m ≤ 4294967296) (hbase : base ≤ w.heap.size) (ty : TypeId) :
    ∃ v' w', (Builtin.append_ #[27, 27] ty #[v, .slice A m c]).run Tryd.prog w = .ok v' w' ∧ w'.ownsRow base 5 1 v' (n + m) (xs ++ X.map isB) ∧ w.grownBy w' v.ownBlock ∧
      (v'.ownBlock = v.ownBlock ∨ v'.ownBlock = some w.heap.size) := by
  obtain ⟨i0, hi, hz0, hz1, hz2⟩ := info_parts info_b
  have hl : (X.map isB).length = m := by simpa using hX.1
  rcases A with _ | ad
  · have hm : m = 0 := by
      rcases Nat.eq_zero_or_pos m with h0 | h0
      · exact h0
      · obtain ⟨_, _, h, _⟩ := hX.2 h0
        cases h
    subst hm
    obtain hn := List.eq_nil_of_length_eq_zero hl
    rw [hn, List.append_nil]
    refine ⟨v, w, ?_, hown, World.grownBy.refl w _, .inl rfl⟩
    rcases hown.2 with ⟨rfl, rfl⟩ | ⟨g, cap, cur, rfl, _, _, hnc, _⟩
    · simp [Builtin.append_, run_underlying Tryd.underlying27, sizeOf, typeInfo, hi, Builtin.lenOf, Builtin.firstCells]
    · simp [Builtin.append_, run_underlying Tryd.underlying27, sizeOf, typeInfo, hi, Builtin.lenOf, Builtin.firstCells, hnc, storeCells]
  · have hsrc : ∀ j u, (X.map isB)[j]? = some u → w.cell? (ad.add j) = some u := by
      intro j u hu
      have hj : j < m := by rw [← hl]; exact (List.getElem?_eq_some_iff.1 hu).1
      obtain ⟨ad', h, hc⟩ := hX.src (by omega)
      injection h with h
      subst h
      exact hc j u hu
    obtain ⟨v', w', hrun, h2, h3, _, h5⟩ := run_append_own_at (P := Tryd.prog) w base 27 ty 5 i0 _ 1 1 Tryd.underlying27 hi hz0 hz1 hz2 rfl (by omega) v n xs hown ad m c (X.map isB) (by rw [hl, Nat.mul_one]) hsrc (one_isB X)
      (by simp only [maxLen]; omega) (by omega) hbase
    exact ⟨v', w', hrun, h2, h3, h5⟩

theorem own_shape {w : World} {base : Nat} {e : TypeId} {v : Value} {n : Nat} {xs : List Value} (h : w.ownsRow base e 1 v n xs) : ∃ A c, v = .slice A n c := by
  rcases h.2 with ⟨rfl, rfl⟩ | ⟨g, cap, cur, rfl, _⟩
  · exact ⟨_, _, rfl⟩
  · exact ⟨_, _, rfl⟩

/-- What the call owns reads as bytes. -/
theorem RdB.of_own {w : World} {base : Nat} {A : Option Addr} {n c : Nat} {l : List UInt8} (h : w.ownsRow base 5 1 (.slice A n c) n (l.map isB)) : RdB w A n l := by
  have hl : l.length = n := by have := h.1; simpa using this
  refine ⟨hl, fun hn => ?_⟩
  rcases h.2 with ⟨hv, h0⟩ | ⟨g, cap, cur, hv, hb, hg, hnc, hcm, hcs, ht⟩
  · omega
  · injection hv with hA _ _
    refine ⟨g, 0, hA, (Array.getElem?_eq_some_iff.1 hg).1, fun j hj => ?_⟩
    have hc := cell_of_row w g j cur 5 (0, 0) hg
    rw [Nat.zero_add, hc]
    have e : (cur.toList.take (n * 1))[j]? = (l.map isB)[j]? := by rw [ht]
    rw [Nat.mul_one, List.getElem?_take_of_lt (by omega)] at e
    simp [hj] at e
    simpa [isB] using e

theorem own_ne {w : World} {base g : Nat} {t e : TypeId} {v : Value} {n : Nat} {xs cs : List Value} (h : w.ownsRow base e 1 v n xs) (hg : Blk w g t cs) (hne : e ≠ t) : v.ownBlock ≠ some g := by
  rcases h.2 with ⟨rfl, _⟩ | ⟨g', cap, cur, rfl, _, hh, _⟩
  · simp [Value.ownBlock]
  · intro he
    have : g' = g := by simpa [Value.ownBlock] using he
    subst this
    unfold Blk at hg
    rw [hg] at hh
    injection hh with hh
    injection hh with _ ht
    exact hne ht.symm

theorem own_made (w : World) (base : Nat) (l : List UInt8) (hb : base ≤ w.heap.size) (hl : l.length ≤ 4294967296) :
    (w.alloc (.cells (l.map isB).toArray 5)).ownsRow base 5 1 (.slice (some ⟨w.heap.size, 0, none⟩) l.length l.length) l.length (l.map isB) :=
  ⟨by simp, .inr ⟨w.heap.size, l.length, _, rfl, hb, heap_alloc_new w _, Nat.le_refl _, by simp only [maxLen]; omega, by simp, by rw [Nat.mul_one]; exact List.take_of_length_le (by simp)⟩⟩

/-- string(b), where b reads as the bytes l. -/
theorem run_str {w : World} {A : Option Addr} {n : Nat} {l : List UInt8} (h : RdB w A n l) (c : Nat) :
    (convert 27 9 (.slice A n c)).run Tryd.prog w = .ok (.string ⟨l.toArray⟩) w := by
  have hl := h.1
  subst hl
  cases A with
  | none =>
    have h0 : l = [] := by
      rcases Nat.eq_zero_or_pos l.length with h0 | h0
      · exact List.eq_nil_of_length_eq_zero h0
      · obtain ⟨_, _, e, _⟩ := h.2 h0
        cases e
    subst h0
    exact run_convert_bytes_nil (P := Tryd.prog) w 27 5 Tryd.underlying27 Tryd.underlying5 0 c _ Tryd.underlying9
  | some a =>
    refine run_convert_bytes_back w 27 9 5 a c l Tryd.underlying27 Tryd.underlying5 Tryd.underlying9 (fun j hj => ?_)
    obtain ⟨b, o, e, _, hc⟩ := h.2 (by omega)
    injection e with e
    subst e
    rw [addr_add]
    exact hc j hj
theorem run_strN {w : World} {A : Option Addr} {n : Nat} {l : List UInt8} (h : RdB w A n l) (c k : Nat) :
    (convert 27 9 (.slice A n c)).run Tryd.prog (w.drewN k) = .ok (.string ⟨l.toArray⟩) (w.drewN k) := run_str (h.drewN k) c
theorem run_strAdd (a b : List UInt8) (h : a.length + b.length ≤ 9223372036854775807) (w : World) :
    (binOp .add 9 (.string ⟨a.toArray⟩) (.string ⟨b.toArray⟩)).run Tryd.prog w = .ok (.string ⟨(a ++ b).toArray⟩) w := by
  rw [binOp_string_add, run_string_add_sum _ _ _ (by simpa [ByteArray.size] using h)]
  congr 2
theorem run_sliceB_to (A : Option Addr) (n c j : Nat) (h : j ≤ c) (w : World) :
    (Instr.slice 27 (.slice A n c) none (some (.int .i64 (j : Int))) none).run Tryd.prog w = .ok (.slice A j c) w := by
  have hs : (sizeOf 5).run Tryd.prog w = .ok 1 w := by kernel_rfl
  have e : (if c = 0 then A else A.map (fun x => x.add 0)) = A := by
    split
    · rfl
    · cases A <;> simp [Addr.add]
  simp [Instr.slice, run_underlying Tryd.underlying27, Instr.sliceBounds, Instr.sliceBound, asIntOf, hs, h, e]
theorem run_sliceB_from (A : Option Addr) (n c j : Nat) (h : j ≤ n) (w : World) :
    (Instr.slice 27 (.slice A n c) (some (.int .i64 (j : Int))) none none).run Tryd.prog w = .ok (.slice (if c = j then A else A.map (·.add j)) (n - j) (c - j)) w := by
  have hs : (sizeOf 5).run Tryd.prog w = .ok 1 w := by kernel_rfl
  simp [Instr.slice, run_underlying Tryd.underlying27, Instr.sliceBounds, Instr.sliceBound, asIntOf, hs, h]
theorem RdB.front {w : World} {A : Option Addr} {n : Nat} {l : List UInt8} (h : RdB w A n l) (m : Nat) (hm : m ≤ n) : RdB w A m (l.take m) := by
  have hl := h.1
  refine ⟨by simp; omega, fun h0 => ?_⟩
  obtain ⟨b, o, e, hb, hc⟩ := h.2 (by omega)
  exact ⟨b, o, e, hb, fun j hj => by rw [hc j (by simp at hj; omega)]; simp⟩
theorem RdB.back {w : World} {A : Option Addr} {n : Nat} {l : List UInt8} (h : RdB w A n l) (rd c : Nat) (h1 : rd ≤ n) (h2 : n ≤ c) :
    RdB w (if c = rd then A else A.map (·.add rd)) (n - rd) (l.drop rd) := by
  have hc := h.cut rd (n - rd) c (by omega) h2
  rw [List.take_of_length_le (by have := h.1; simp; omega)] at hc
  exact hc

theorem wpList_appB {w : World} {ops : Array Oper} {rest : List Oper} {o : Oper} {a : Act} {Q : Exit → Act → World → Prop} (hgd : o.guard = none) (s x : Operand)
    (ho : o.op = .call { callee := .builtin .append, args := #[s, x], argTypes := #[27, 27] })
    (base : Nat) (v : Value) (n : Nat) (xs : List Value) (hs : a.eval s = v) (hown : w.ownsRow base 5 1 v n xs)
    (A : Option Addr) (m c : Nat) (X : List UInt8) (hx : a.eval x = .slice A m c) (hX : RdB w A m X) (hb : n + m ≤ 4294967296) (hbase : base ≤ w.heap.size)
    (h : ∀ A' c' w', Hid (w'.ownsRow base 5 1 (.slice A' (n + m) c') (n + m) (xs ++ X.map isB)) → w.grownBy w' v.ownBlock → Hid ((Value.slice A' (n + m) c').ownBlock = v.ownBlock ∨ (Value.slice A' (n + m) c').ownBlock = some w.heap.size) →
      wpList Tryd.prog ops Q rest (a.put o.dst (.slice A' (n + m) c')) w') :
    wpList Tryd.prog ops Q (o :: rest) a w := by
  refine wpList_plain hgd fun K hK => ?_
  obtain ⟨v', w', hrun, h2, h3, h4⟩ := run_appB w base v n xs hown A m c X hX hb hbase o.type
  obtain ⟨A', c', rfl⟩ := own_shape h2
  unfold Oper.wp execOp
  simp only [ho, resolve, invoke, builtin, Sem.run_bind, Sem.run_pure, Result.andThen_ok, List.map_toArray, List.map_cons, List.map_nil, hs, hx, hrun]
  exact hK _ _ (h A' c' w' h2 h3 h4)
end Go.Proofs.YtoiegkejkahfgaaDoor
