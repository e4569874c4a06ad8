/- lex: Join. -/
import Derived.Test.YtmefllfmcjjbaaaLxI
import Derived.Lib.Join
namespace Go.Proofs.Ytmefllfmcjjbaaa
open Go.RowKit

theorem info_st : (Try.prog.info? 9).map (fun i => (i.zero, i.size, i.bytes)) = some (some (.string ⟨#[]⟩), 1, 16) := by kernel_rfl
def isS (l : List UInt8) : Value := .string ⟨l.toArray⟩
/-- What the tokens' words are. -/
def wordsT (ts : List Tk) : List (List UInt8) := (ts.filter (fun t => !decide (t.k = 5))).map shT
def joinT (ts : List Tk) : List UInt8 := Lib.join (wordsT ts) [32]
theorem words_take (ts : List Tk) (j : Nat) (h : j < ts.length) : wordsT (ts.take (j + 1)) = wordsT (ts.take j) ++ (if ts[j].k = 5 then [] else [shT ts[j]]) := by
  rw [List.take_succ_eq_append_getElem h]
  unfold wordsT
  rw [List.filter_append, List.map_append]
  by_cases h5 : ts[j].k = 5
  · simp [h5]
  · simp [h5]
theorem words_len (ts : List Tk) : (wordsT ts).length ≤ ts.length := by
  unfold wordsT
  rw [List.length_map]
  exact List.length_filter_le _ _
/-- What stands while words are collected. -/
structure JnSt (w : World) (A : Option Addr) (ts : List Tk) (v : Value) (ws : List (List UInt8)) (W : World) : Prop where
  bel : Below w.heap.size w W
  rd : RdK W A ts
  row : W.ownsRow w.heap.size 9 1 v ws.length (ws.map isS)
theorem JnSt.below {w W W' : World} {A : Option Addr} {ts : List Tk} {v : Value} {ws : List (List UInt8)} (h : JnSt w A ts v ws W) (hb : Below W.heap.size W W') : JnSt w A ts v ws W' :=
  ⟨h.bel.trans (hb.mono h.bel.size), h.rd.keep hb, owns_keep h.row (fun b _ hl => hb.block b hl)⟩
theorem JnSt.snoc {w W1 W2 : World} {A : Option Addr} {ts : List Tk} {v v' : Value} {ws : List (List UInt8)} (x : List UInt8) (hr : RdK w A ts) (h : JnSt w A ts v ws W1)
    (hown : W2.ownsRow w.heap.size 9 1 v' (ws.length + 1) (ws.map isS ++ [isS x])) (hg : W1.grownBy W2 v.ownBlock) : JnSt w A ts v' (ws ++ [x]) W2 := by
  have hge := owns_block h.row
  have hb : Below w.heap.size w W2 := ⟨hg.os.trans h.bel.os, hg.tape.trans h.bel.tape, hg.output.trans h.bel.output, Nat.le_trans h.bel.size hg.size, fun k hk => (hg.block k (Nat.lt_of_lt_of_le hk h.bel.size) (fun e => by have := hge k e.symm; omega)).trans (h.bel.block k hk)⟩
  exact ⟨hb, hr.keep hb, by rw [List.length_append, List.map_append]; exact hown⟩
theorem new_str (w : World) (x : List UInt8) : ∀ j u, [isS x][j]? = some u → (w.alloc (.cells #[isS x] 9)).cell? ((⟨w.heap.size, 0, none⟩ : Addr).add j) = some u := by
  intro j u hj
  rw [addr_add, Nat.zero_add]
  exact (Blk.at (Blk.fresh w 9 [isS x]) j).trans hj
theorem str_ones (x : List UInt8) : ∀ u ∈ [isS x], u.oneCell' = true := by
  intro u hu
  simp only [List.mem_cons, List.not_mem_nil, or_false] at hu
  subst hu
  rfl
set_option maxRecDepth 100000 in
set_option maxHeartbeats 4000000 in
theorem join_any {w : World} {A : Option Addr} {cap : Nat} {ts : List Tk} (h : RdK w A ts) (hn : ts.length ≤ 65537) (hx : ∀ t ∈ ts, t.x.length ≤ 65536) (hlen : (joinT ts).length ≤ 140737488355328) :
    Calls Try.prog 11 #[.slice A ts.length cap] w fun e w' => e = .returned (.string ⟨(joinT ts).toArray⟩) ∧ Below w.heap.size w w' := by
  have HR := hid h
  have HJ := hid (fun (W : World) (v : Value) (ws : List (List UInt8)) (hw : ws = wordsT ts) (hr : W.ownsRow w.heap.size 9 1 v ws.length (ws.map isS)) => (show Calls Try.prog 20 #[v, .string ⟨#[32]⟩] W fun e w' => e = .returned (.string ⟨(joinT ts).toArray⟩) ∧ Below W.heap.size W w' by
    have hnl := words_len ts
    rw [← hw] at hnl
    have hjl : (Lib.join ((ws.map (fun l => (⟨l.toArray⟩ : ByteArray))).map (·.data.toList)) [32]) = joinT ts := by
      rw [List.map_map]
      unfold joinT
      rw [← hw]
      congr 1
      conv => rhs; rw [← List.map_id ws]
      rfl
    rcases hr.2 with ⟨rfl, hz⟩ | ⟨g, c2, cur, rfl, hb, hg, hnc, hcm, hcs, ht⟩
    · have hws : ws = [] := List.length_eq_zero_iff.1 hz
      have e : joinT ts = [] := by unfold joinT; rw [← hw, hws]; rfl
      rw [e]
      exact (Try.strings_Join_none none 0 ⟨#[32]⟩ W).mono (fun _ _ ⟨h1, h2⟩ => ⟨h1, h2 ▸ Below.refl _ _⟩)
    · have hc := Try.strings_Join g 0 c2 (ws.map (fun l => (⟨l.toArray⟩ : ByteArray))) ⟨#[32]⟩ W (fun j x hj => by
        rw [Nat.zero_add, cell_of_row W g j cur _ (0, 0) hg]
        rw [List.getElem?_map] at hj
        have e : (ws.map isS)[j]? = some (.string x) := by
          rw [List.getElem?_map]
          cases hwj : ws[j]? with
          | none => rw [hwj] at hj; cases hj
          | some l => rw [hwj] at hj; simp only [Option.map_some, Option.some.injEq] at hj ⊢; subst hj; rfl
        have hjl : j < ws.length := by
          rcases Nat.lt_or_ge j ws.length with h | h
          · exact h
          · rw [List.getElem?_eq_none (by simpa using h)] at hj; cases hj
        rw [← ht, List.getElem?_take_of_lt (by omega)] at e
        rw [← Array.getElem?_toList, e]) (Array.getElem?_eq_some_iff.1 hg).1 (by rw [List.length_map]; omega) (by rw [List.length_map]; omega) (by rw [show (⟨#[32]⟩ : ByteArray).data.toList = [32] from rfl, hjl]; exact hlen)
      rw [show (⟨#[32]⟩ : ByteArray).data.toList = [32] from rfl, hjl, List.length_map] at hc
      exact hc))
  have HS := hid (show JnSt w A ts (.slice none 0 0) [] w from ⟨Below.refl _ _, h, ⟨rfl, .inl ⟨rfl, rfl⟩⟩⟩)
  have HX := hid hx
  obtain ⟨n, hn2⟩ : ∃ n, n = ts.length := ⟨_, rfl⟩
  rw [← hn2]
  clear h hx hlen
  have hn3 : n ≤ 65537 := by omega
  have HN := hid hn2
  clear hn2 hn
  go_enter Try.func11, Try.ntmps11
  go_wp2_with fail
  go_loopg [3, 8] (n + 1) (fun m v i wr => ∃ j : Nat, j ≤ n ∧ n < m + j ∧ i = .int .i64 (j : Int) ∧ Hid (JnSt w A ts v (wordsT (ts.take j)) wr))
  case atStart => exact ⟨0, by omega, by omega, rfl, HS⟩
  case round =>
    clear HS
    obtain ⟨j, hj, hm, rfl, HS⟩ := hrel
    obtain ⟨m, rfl⟩ : ∃ m, gk = m + 1 := ⟨gk - 1, by omega⟩
    rcases Nat.lt_or_ge j n with hlt | hge
    · have n1 : (j : Int) < (n : Int) := by omega
      have hjt : j < ts.length := by have := HN.out; omega
      have hA := HS.out.rd (by omega)
      obtain ⟨b, o, e, hbl, hcs⟩ := hA
      obtain ⟨c0, c1, c2⟩ := hcs j hjt
      have hwt := words_take ts j hjt
      have hxl := HX.out _ (List.getElem_mem hjt)
      have hwl := words_len (ts.take j)
      rw [List.length_take] at hwl
      have hwl2 : (wordsT (ts.take j)).length ≤ 65536 := by omega
      obtain ⟨T, hT⟩ : ∃ T, T = ts[j] := ⟨_, rfl⟩
      rw [← hT] at c0 c1 c2 hwt hxl
      have HSh := hid (fun W => show_any T hxl W)
      have HS5 := hid (HS.out.below ((Below.refl wr.heap.size wr).alloc (Nat.le_refl _) (.cells #[.int .i64 (T.k : Int), .int .i64 (T.p : Int), .string ⟨T.x.toArray⟩] 33)))
      have hF := Blk.fresh wr 33 [.int .i64 (T.k : Int), .int .i64 (T.p : Int), .string ⟨T.x.toArray⟩]
      obtain ⟨d0, d1, d2⟩ : (wr.alloc (.cells #[.int .i64 (T.k : Int), .int .i64 (T.p : Int), .string ⟨T.x.toArray⟩] 33)).cell? ⟨wr.heap.size, 0, none⟩ = some (.int .i64 (T.k : Int)) ∧ (wr.alloc (.cells #[.int .i64 (T.k : Int), .int .i64 (T.p : Int), .string ⟨T.x.toArray⟩] 33)).cell? ⟨wr.heap.size, 1, none⟩ = some (.int .i64 (T.p : Int)) ∧ (wr.alloc (.cells #[.int .i64 (T.k : Int), .int .i64 (T.p : Int), .string ⟨T.x.toArray⟩] 33)).cell? ⟨wr.heap.size, 2, none⟩ = some (.string ⟨T.x.toArray⟩) := ⟨Blk.at hF 0, Blk.at hF 1, Blk.at hF 2⟩
      have hws : wr.heap.size < (wr.alloc (.cells #[.int .i64 (T.k : Int), .int .i64 (T.p : Int), .string ⟨T.x.toArray⟩] 33)).heap.size := by simp
      have hle : w.heap.size ≤ wr.heap.size := HS.out.bel.size
      clear hF HS hcs hbl hxl hwl hT
      subst e
      generalize wordsT (ts.take j) = ws at *
      go_upto_region 5 with (fail)
      generalize (⟨T.x.toArray⟩ : ByteArray) = X at *
      generalize wr.alloc (.cells #[.int .i64 (T.k : Int), .int .i64 (T.p : Int), .string X] 33) = w5 at *
      clear c0 c1 c2
      by_cases h5 : T.k = 5
      · rw [if_pos h5, List.append_nil] at hwt
        have h5' : (T.k : Int) = 5 := by omega
        rw [h5'] at d0
        clear h5 h5' HSh
        go_wp2_with fail
        go_roundg m
        case measure => omega
        case rel => exact ⟨j + 1, by omega, by omega, by go_num, by rw [hwt]; exact HS5⟩
      · rw [if_neg h5] at hwt
        have h5' : ¬ (T.k : Int) = 5 := by omega
        generalize (T.k : Int) = tk at *
        generalize (T.p : Int) = tp at *
        clear h5
        go_wp2_with fail
        refine (HSh.out _).mono ?_
        rintro e w6 ⟨rfl, hb6⟩
        have HS6 := hid (HS5.out.below hb6)
        have HS7 := hid (HS6.out.below ((Below.refl w6.heap.size w6).alloc (Nat.le_refl _) (.cells #[isS (shT T)] 9)))
        have HOwn := hid HS7.out.row
        have HCn := hid (new_str w6 (shT T))
        have hone := str_ones (shT T)
        have hw6 : w.heap.size ≤ (w6.alloc (.cells #[isS (shT T)] 9)).heap.size := by
          have := HS6.out.bel.size
          rw [World.size_alloc]
          omega
        have HSn := hid (fun (v' : Value) (W2 : World) (hown : W2.ownsRow w.heap.size 9 1 v' (ws.length + 1) (ws.map isS ++ [isS (shT T)])) hg => HS7.out.snoc (shT T) HR.out hown hg)
        unfold isS at HCn hone hw6 HOwn HSn
        generalize (⟨(shT T).toArray⟩ : ByteArray) = Y at *
        clear HS5 HS6 HS7 hb6 HSh d0 d1 d2
        obtain ⟨i0, hi0, hz0, hz1, hz2⟩ := info_parts info_st
        go_wp2_with (refine wpList_append_own_at _ rfl _ _ 49 rfl w.heap.size 9 i0 (.string ⟨#[]⟩) 1 16 Try.underlying49 hi0 hz0 hz1 hz2 rfl (by decide) _ _ _ rfl HOwn.out ⟨w6.heap.size, 0, none⟩ 1 1 [.string Y] rfl rfl HCn.out hone (by unfold maxLen; omega) (by omega) hw6 ?_; intro u7 w7 hown7 hgrow7 _ _; have HS8 := hid (HSn.out u7 w7 hown7 hgrow7); clear hown7 hgrow7)
        go_roundg m
        case measure => omega
        case rel => exact ⟨j + 1, by omega, by omega, by go_num, by rw [hwt]; exact HS8⟩
    · obtain rfl : j = n := by omega
      have HJ2 := hid (HJ.out wr u3 _ (by rw [HN.out, List.take_length]) HS.out.row)
      clear HJ
      have HB := hid HS.out.bel
      clear HS
      go_wp2_with fail
      refine HJ2.out.mono ?_
      rintro e w6 ⟨rfl, hb6⟩
      go_wp2
      go_ret
      exact ⟨rfl, HB.out.trans (hb6.mono HB.out.size)⟩
end Go.Proofs.Ytmefllfmcjjbaaa
