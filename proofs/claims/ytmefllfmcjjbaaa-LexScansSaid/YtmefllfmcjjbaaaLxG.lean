/- lex: Scan. -/
import Derived.Test.YtmefllfmcjjbaaaLxF
import Derived.Test.YtmefllfmcjjbaaaMem
import Derived.Laws.Rows
import Derived.Maps.AppendAt
namespace Go.Proofs.Ytmefllfmcjjbaaa
open Go.RowKit

def Tk.cells (t : Tk) : List Value := [.int .i64 (t.k : Int), .int .i64 (t.p : Int), .string ⟨t.x.toArray⟩]
theorem Tk.len (t : Tk) : t.cells.length = 3 := rfl
def flatK (ts : List Tk) : List Value := ts.flatMap Tk.cells
theorem flatK_snoc (ts : List Tk) (t : Tk) : flatK (ts ++ [t]) = flatK ts ++ t.cells := by simp [flatK]
theorem flatK_get (vs : List Tk) (j i : Nat) (hj : j < vs.length) (hi : i < 3) : (flatK vs)[j * 3 + i]? = vs[j].cells[i]? := by
  induction vs generalizing j with
  | nil => simp at hj
  | cons p ps ih =>
    have hc : flatK (p :: ps) = p.cells ++ flatK ps := by simp [flatK]
    rw [hc]
    cases j with
    | zero =>
      rw [List.getElem?_append_left (by rw [Tk.len]; omega), Nat.zero_mul, Nat.zero_add]
      rfl
    | succ j =>
      rw [List.getElem?_append_right (by rw [Tk.len]; omega), Tk.len, show (j + 1) * 3 + i - 3 = j * 3 + i by omega]
      rw [ih j (by simpa using hj)]
      rfl
theorem tk_ones (v : Tk) : ∀ u ∈ v.cells, u.oneCell' = true := by
  intro u hu
  simp only [Tk.cells, List.mem_cons, List.not_mem_nil, or_false] at hu
  rcases hu with rfl | rfl | rfl <;> rfl
theorem info_tk : (Try.prog.info? 33).map (fun i => (i.zero, i.size, i.bytes)) = some (some (.agg #[.int .i64 0, .int .i64 0, .string ⟨#[]⟩]), 3, 32) := by kernel_rfl
def faultC (c p : Int) : Array Value := #[.int .i64 c, .int .i64 p]
theorem fault_size (c p : Int) : (Try.prog.info? 26).map (·.size) = some (faultC c p).size := by
  rw [show (faultC c p).size = 2 from rfl]; kernel_rfl
theorem fault_one (c p : Int) : (faultC c p).all (·.oneCell') = true := by simp [faultC, Value.oneCell']
theorem below_row {B g : Nat} {a w : World} (h : Below B a w) (hg : B ≤ g) (cs : Array Value) : Below B a (w.setRow g cs) :=
  ⟨h.os, h.tape, h.output, by have := h.size; simpa [World.setRow] using this, fun k hk => (setRow_other w g k cs (by omega)).trans (h.block k hk)⟩
theorem results_tmp_cell {P : Program} {fn : Func} {p u : Tmp} {ty : TypeId} (h : fn.results = #[.tmp u, .cell p ty]) (tmps : Array Value) (w : World) (g : Nat) (t : TypeId) (cs : Array Value) (fr : Nat × Nat) (d : TypeDesc)
    (hp : tmps.getD p undef = .pointer (some ⟨g, 0, none⟩)) (hg : w.heap[g]? = some (.cells cs t fr))
    (hu : P.underlying ty = some d) (hd : (match d with | .struct _ | .array _ _ => true | _ => false) = true) (hi : (P.info? ty).map (·.size) = some cs.size) :
    (results fn tmps).run P w = .ok (.tuple #[tmps.getD u undef, .agg cs]) w := by
  have hp' : tmps[p]?.getD undef = .pointer (some ⟨g, 0, none⟩) := by simpa using hp
  simp [results, h, hp', asAddr, run_loadVar_row w g t ty cs fr d hg hu hd hi]

/-- What Scan answers. -/
def ScanR (r : Except (Nat × Nat) (List Tk)) (w : World) (e : Ending) (w' : World) : Prop := Below w.heap.size w w' ∧ match r with
  | .error (c, p) => e = .returned (.tuple #[.slice none 0 0, .agg (faultC (c : Int) (p : Int))])
  | .ok ts => ∃ v, e = .returned (.tuple #[v, .agg (faultC 0 0)]) ∧ w'.ownsRow w.heap.size 33 3 v ts.length (flatK ts)
/-- What stands while tokens are cut. -/
structure ScSt (w : World) (s : ByteArray) (j : Nat) (v : Value) (ts : List Tk) (W : World) : Prop where
  bel : Below w.heap.size w W
  res : Blk W w.heap.size 26 (faultC 0 0).toList
  cu : Cu W (w.heap.size + 1) s j
  row : W.ownsRow (w.heap.size + 2) 33 3 v ts.length (flatK ts)
theorem owns_keep {w w' : World} {base : Nat} {e : TypeId} {size : Nat} {v : Value} {n : Nat} {xs : List Value} (h : w.ownsRow base e size v n xs) (hb : ∀ b, base ≤ b → b < w.heap.size → w'.heap[b]? = w.heap[b]?) : w'.ownsRow base e size v n xs := by
  refine ⟨h.1, ?_⟩
  rcases h.2 with hn | ⟨g', cap, cur, rfl, hb', hg', r⟩
  · exact .inl hn
  · exact .inr ⟨g', cap, cur, rfl, hb', (hb g' hb' (Array.getElem?_eq_some_iff.1 hg').1).trans hg', r⟩
theorem owns_block {w : World} {base : Nat} {e : TypeId} {size : Nat} {v : Value} {n : Nat} {xs : List Value} (h : w.ownsRow base e size v n xs) : ∀ b, v.ownBlock = some b → base ≤ b ∧ b < w.heap.size := by
  intro b hb
  rcases h.2 with ⟨rfl, _⟩ | ⟨g', cap, cur, rfl, hb', hg', _⟩
  · cases hb
  · injection hb with hb
    subst hb
    exact ⟨hb', (Array.getElem?_eq_some_iff.1 hg').1⟩
theorem owns_shape {w : World} {base : Nat} {e : TypeId} {size : Nat} {v : Value} {n : Nat} {xs : List Value} (h : w.ownsRow base e size v n xs) : ∃ A c, v = .slice A n c := by
  rcases h.2 with ⟨rfl, hn⟩ | ⟨g', cap, cur, rfl, _⟩
  · exact ⟨none, 0, by rw [hn]⟩
  · exact ⟨_, cap, rfl⟩
theorem owns_base {w : World} {base base' : Nat} {e : TypeId} {size : Nat} {v : Value} {n : Nat} {xs : List Value} (h : w.ownsRow base e size v n xs) (hb : base' ≤ base) : w.ownsRow base' e size v n xs := by
  refine ⟨h.1, ?_⟩
  rcases h.2 with hn | ⟨g', cap, cur, rfl, hb', r⟩
  · exact .inl hn
  · exact .inr ⟨g', cap, cur, rfl, Nat.le_trans hb hb', r⟩
theorem ScSt.step {w W W' : World} {s : ByteArray} {j j' : Nat} {v : Value} {ts : List Tk} (h : ScSt w s j v ts W) (hg : W.grownBy W' (some (w.heap.size + 1))) (hc : Cu W' (w.heap.size + 1) s j') : ScSt w s j' v ts W' :=
  ⟨⟨hg.os.trans h.bel.os, hg.tape.trans h.bel.tape, hg.output.trans h.bel.output, Nat.le_trans h.bel.size hg.size, fun k hk => (hg.block k (Nat.lt_of_lt_of_le hk h.bel.size) (by intro e; injection e with e; omega)).trans (h.bel.block k hk)⟩,
   (hg.block _ h.res.lt (by intro e; injection e with e; omega)).trans h.res, hc, owns_keep h.row (fun b hb hl => hg.block b hl (by intro e; injection e with e; omega))⟩
theorem ScSt.below {w W W' : World} {s : ByteArray} {j : Nat} {v : Value} {ts : List Tk} (h : ScSt w s j v ts W) (hb : Below W.heap.size W W') : ScSt w s j v ts W' :=
  ⟨h.bel.trans (hb.mono h.bel.size), h.res.keep hb, h.cu.keep hb, owns_keep h.row (fun b _ hl => hb.block b hl)⟩
theorem ScSt.snoc {w W1 W2 : World} {s : ByteArray} {j : Nat} {v v' : Value} {ts : List Tk} {t : Tk} (h : ScSt w s j v ts W1)
    (hown : W2.ownsRow (w.heap.size + 2) 33 3 v' (ts.length + 1) (flatK ts ++ t.cells)) (hg : W1.grownBy W2 v.ownBlock) : ScSt w s j v' (ts ++ [t]) W2 := by
  have hge := owns_block h.row
  refine ⟨⟨hg.os.trans h.bel.os, hg.tape.trans h.bel.tape, hg.output.trans h.bel.output, Nat.le_trans h.bel.size hg.size, fun k hk => ?_⟩, ?_, ?_, ?_⟩
  · exact (hg.block k (Nat.lt_of_lt_of_le hk h.bel.size) (fun e => by have := hge k e.symm; omega)).trans (h.bel.block k hk)
  · exact (hg.block _ h.res.lt (fun e => by have := hge _ e.symm; omega)).trans h.res
  · exact (hg.block _ (Blk.lt h.cu) (fun e => by have := hge _ e.symm; omega)).trans h.cu
  · rw [List.length_append, flatK_snoc]; exact hown
theorem new_tk (w : World) (v : Tk) : ∀ j u, v.cells[j]? = some u → (w.alloc (.cells v.cells.toArray 33)).cell? ((⟨w.heap.size, 0, none⟩ : Addr).add j) = some u := by
  intro j u hj
  rw [addr_add, Nat.zero_add]
  exact (Blk.at (Blk.fresh w 33 v.cells) j).trans hj
set_option maxRecDepth 100000 in
set_option maxHeartbeats 4000000 in
theorem scan_long (s : ByteArray) (hs : 65536 < s.size) (w : World) : Calls Try.prog 9 #[.string s] w (ScanR (scanT s.data.toList) w) := by
  have HP : Hid (scanT s.data.toList = .error (2, 0)) := hid (by unfold scanT; rw [if_pos (show 65536 < s.data.toList.length from hs)])
  have HB := hid ((Below.refl w.heap.size w).alloc (Nat.le_refl _) (.cells (faultC 0 0) 26))
  have HF := hid (heap_alloc_new w (.cells (faultC 0 0) 26))
  rw [HP.out]
  have hs' : (65536 : Int) < (s.size : Int) := by omega
  clear hs HP
  go_enter Try.func9, Try.ntmps9
  go_upto_region 1 with (fail)
  change Code.wp _ _ _ _ (w.alloc (.cells (faultC 0 0) 26))
  generalize w.alloc (.cells (faultC 0 0) 26) = w1 at *
  go_wp2_with (refine wpList_store_row rfl 26 _ _ rfl w.heap.size (faultC 2 0) ?_ ?_ 26 (faultC 0 0) HF.out (fault_size 2 0) ?_ (fault_one 2 0) ?_; exact rfl; exact rfl; exact rfl)
  exact bodyPost_ret (v := .tuple #[.slice none 0 0, .agg (faultC 2 0)]) (results_tmp_cell (P := Try.prog) (fn := Try.f9) rfl _ _ w.heap.size 26 _ (0, 0) _ rfl (setRow_heap _ _ _ _ _ (0, 0) HF.out) Try.underlying26 rfl (fault_size 2 0)) rfl ⟨below_row HB.out (Nat.le_refl _) _, rfl⟩
end Go.Proofs.Ytmefllfmcjjbaaa
