/- lex: Join. -/
import Derived.Test.YtfcccfplmdjndaaGreatLxI
import Derived.Lib.Join
namespace Go.Proofs.YtfcccfplmdjndaaGreat
open Go.RowKit

theorem info_st : (Tryz.prog.info? 9).map (fun i => (i.zero, i.size, i.bytes)) = some (some (.string ⟨#[]⟩), 1, 16) := by kernel_rfl
def isS (l : List UInt8) : Value := .string ⟨l.toArray⟩
/-- What the tokens' words are. -/
def wordsT (ts : List Tk) : List (List UInt8) := (ts.filter (fun t => !decide (t.k = 5))).map shT
def joinT (ts : List Tk) : List UInt8 := Lib.join (wordsT ts) [32]
theorem words_take (ts : List Tk) (j : Nat) (h : j < ts.length) : wordsT (ts.take (j + 1)) = wordsT (ts.take j) ++ (if ts[j].k = 5 then [] else [shT ts[j]]) := by
 rw [List.take_succ_eq_append_getElem h]
 unfold wordsT
 rw [List.filter_append, List.map_append]
 by_cases h5 : ts[j].k = 5
 ·simp [h5]
 ·simp [h5]
theorem words_len (ts : List Tk) : (wordsT ts).length ≤ ts.length := by
 unfold wordsT
 rw [List.length_map]
 exact List.length_filter_le _ _
/-- What stands while words are collected. -/
structure JnSt (w : World) (A : Option Addr) (ts : List Tk) (v : Value) (ws : List (List UInt8)) (W : World) : Prop where
 bel : Below w.heap.size w W
 rd : RdK W A ts
 row : W.ownsRow w.heap.size 9 1 v ws.length (ws.map isS)
theorem JnSt.below {w W W' : World} {A : Option Addr} {ts : List Tk} {v : Value} {ws : List (List UInt8)} (h : JnSt w A ts v ws W) (hb : Below W.heap.size W W') : JnSt w A ts v ws W' :=
 ⟨h.bel.trans (hb.mono h.bel.size), h.rd.keep hb, owns_keep h.row (fun b _ hl => hb.block b hl)⟩
theorem JnSt.snoc {w W1 W2 : World} {A : Option Addr} {ts : List Tk} {v v' : Value} {ws : List (List UInt8)} (x : List UInt8) (hr : RdK w A ts) (h : JnSt w A ts v ws W1)
  (hown : W2.ownsRow w.heap.size 9 1 v' (ws.length + 1) (ws.map isS ++ [isS x])) (hg : W1.grownBy W2 v.ownBlock) : JnSt w A ts v' (ws ++ [x]) W2 := by
 have hge := owns_block h.row
 have hb : Below w.heap.size w W2 := ⟨hg.os.trans h.bel.os, hg.tape.trans h.bel.tape, hg.output.trans h.bel.output, Nat.le_trans h.bel.size hg.size, fun k hk => (hg.block k (Nat.lt_of_lt_of_le hk h.bel.size) (fun e => by have := hge k e.symm; omega)).trans (h.bel.block k hk)⟩
 exact ⟨hb, hr.keep hb, by rw [List.length_append, List.map_append]; exact hown⟩
theorem new_str (w : World) (x : List UInt8) : ∀ j u, [isS x][j]? = some u → (w.alloc (.cells #[isS x] 9)).cell? ((⟨w.heap.size, 0, none⟩ : Addr).add j) = some u := by
 intro j u hj
 rw [addr_add, Nat.zero_add]
 exact (Blk.at (Blk.fresh w 9 [isS x]) j).trans hj
theorem str_ones (x : List UInt8) : ∀ u ∈ [isS x], u.oneCell' = true := by
 intro u hu
 simp only [List.mem_cons, List.not_mem_nil, or_false] at hu
 subst hu
 rfl
set_option maxRecDepth 100000 in
set_option maxHeartbeats 4000000 in
theorem join_any {w : World} {A : Option Addr} {cap : Nat} {ts : List Tk} (h : RdK w A ts) (hn : ts.length ≤ 65537) (hx : ∀ t ∈ ts, t.x.length ≤ 65536) (hlen : (joinT ts).length ≤ 140737488355328) :
  Calls Tryz.prog 9 #[.slice A ts.length cap] w fun e w' => e = .returned (.string ⟨(joinT ts).toArray⟩) ∧ Below w.heap.size w w' := by
 have HR := hid h
 have HJ := hid (fun (W : World) (v : Value) (ws : List (List UInt8)) (hw : ws = wordsT ts) (hr : W.ownsRow w.heap.size 9 1 v ws.length (ws.map isS)) => (show Calls Tryz.prog 24 #[v, .string ⟨#[32]⟩] W fun e w' => e = .returned (.string ⟨(joinT ts).toArray⟩) ∧ Below W.heap.size W w' by
  have hnl := words_len ts
  rw [← hw] at hnl
  have hjl : (Lib.join ((ws.map (fun l => (⟨l.toArray⟩ : ByteArray))).map (·.data.toList)) [32]) = joinT ts := by
   rw [List.map_map]
   unfold joinT
   rw [← hw]
   congr 1
   conv => rhs; rw [← List.map_id ws]
   rfl
  rcases hr.2 with ⟨rfl, hz⟩ | ⟨g, c2, cur, rfl, hb, hg, hnc, hcm, hcs, ht⟩
  ·have hws : ws = [] := List.length_eq_zero_iff.1 hz
   have e : joinT ts = [] := by unfold joinT; rw [← hw, hws]; rfl
   rw [e]
   exact (Tryz.strings_Join_none none 0 ⟨#[32]⟩ W).mono (fun _ _ ⟨h1, h2⟩ => ⟨h1, h2 ▸ Below.refl _ _⟩)
  ·have hc := Tryz.strings_Join g 0 c2 (ws.map (fun l => (⟨l.toArray⟩ : ByteArray))) ⟨#[32]⟩ W (fun j x hj => by
    rw [Nat.zero_add, cell_of_row W g j cur _ (0, 0) hg]
    rw [List.getElem?_map] at hj
    have e : (ws.map isS)[j]? = some (.string x) := by
     rw [List.getElem?_map]
     cases hwj : ws[j]? with
     | none => rw [hwj] at hj; cases hj
     | some l => rw [hwj] at hj; simp only [Option.map_some, Option.some.injEq] at hj ⊢; subst hj; rfl
    have hjl : j < ws.length := by
     rcases Nat.lt_or_ge j ws.length with h | h
     ·exact h
     ·rw [List.getElem?_eq_none (by simpa using h)] at hj; cases hj
    rw [← ht, List.getElem?_take_of_lt (by omega)] at e
    rw [← Array.getElem?_toList, e]) (Array.getElem?_eq_some_iff.1 hg).1 (by rw [List.length_map]; omega) (by rw [List.length_map]; omega) (by rw [show (⟨#[32]⟩ : ByteArray).data.toList = [32] from rfl, hjl]; exact hlen)
   rw [show (⟨#[32]⟩ : ByteArray).data.toList = [32] from rfl, hjl, List.length_map] at hc
   exact hc))
 have HS := hid (show JnSt w A ts (.slice none 0 0) [] w from ⟨Below.refl _ _, h, ⟨rfl, .inl ⟨rfl, rfl⟩⟩⟩)
 have HX := hid hx
 obtain ⟨n, hn2⟩ : ∃ n, n = ts.length := ⟨_, rfl⟩
 rw [← hn2]
 clear h hx hlen
 have hn3 : n ≤ 65537 := by omega
 have HN := hid hn2
 clear hn2 hn
 go_enter Tryz.func9, Tryz.ntmps9
 go_wp2_with fail
 go_loopg [3, 8] (n + 1) (fun m v i wr => ∃ j : Nat, j ≤ n ∧ n < m + j ∧ i = .int .i64 (j : Int) ∧ Hid (JnSt w A ts v (wordsT (ts.take j)) wr))
 case atStart => exact ⟨0, by omega, by omega, rfl, HS⟩
 case round =>
  clear HS
  obtain ⟨j, hj, hm, rfl, HS⟩ := hrel
  obtain ⟨m, rfl⟩ : ∃ m, gk = m + 1 := ⟨gk - 1, by omega⟩
  rcases Nat.lt_or_ge j n with hlt | hge
  ·have n1 : (j : Int) < (n : Int) := by omega
   have hjt : j < ts.length := by have := HN.out; omega
   have hA := HS.out.rd (by omega)
   obtain ⟨b, o, e, hbl, hcs⟩ := hA
   obtain ⟨c0, c1, c2⟩ := hcs j hjt
   have hwt := words_take ts j hjt
   have hxl := HX.out _ (List.getElem_mem hjt)
   have hwl := words_len (ts.take j)
   rw [List.length_take] at hwl
   have hwl2 : (wordsT (ts.take j)).length ≤ 65536 := by omega
   obtain ⟨T, hT⟩ : ∃ T, T = ts[j] := ⟨_, rfl⟩
   rw [← hT] at c0 c1 c2 hwt hxl
   have HSh := hid (fun W => show_any T hxl W)
   have HS5 := hid (HS.out.below ((Below.refl wr.heap.size wr).alloc (Nat.le_refl _) (.cells #[.int .i64 (T.k : Int), .int .i64 (T.p : Int), .string ⟨T.x.toArray⟩] 70)))
   have hF := Blk.fresh wr 70 [.int .i64 (T.k : Int), .int .i64 (T.p : Int), .string ⟨T.x.toArray⟩]
   obtain ⟨d0, d1, d2⟩ : (wr.alloc (.cells #[.int .i64 (T.k : Int), .int .i64 (T.p : Int), .string ⟨T.x.toArray⟩] 70)).cell? ⟨wr.heap.size, 0, none⟩ = some (.int .i64 (T.k : Int)) ∧ (wr.alloc (.cells #[.int .i64 (T.k : Int), .int .i64 (T.p : Int), .string ⟨T.x.toArray⟩] 70)).cell? ⟨wr.heap.size, 1, none⟩ = some (.int .i64 (T.p : Int)) ∧ (wr.alloc (.cells #[.int .i64 (T.k : Int), .int .i64 (T.p : Int), .string ⟨T.x.toArray⟩] 70)).cell? ⟨wr.heap.size, 2, none⟩ = some (.string ⟨T.x.toArray⟩) := ⟨Blk.at hF 0, Blk.at hF 1, Blk.at hF 2⟩
   have hws : wr.heap.size < (wr.alloc (.cells #[.int .i64 (T.k : Int), .int .i64 (T.p : Int), .string ⟨T.x.toArray⟩] 70)).heap.size := by simp
   have hle : w.heap.size ≤ wr.heap.size := HS.out.bel.size
   clear hF HS hcs hbl hxl hwl hT
   subst e
   generalize wordsT (ts.take j) = ws at *
   go_upto_region 5 with (fail)
   generalize (⟨T.x.toArray⟩ : ByteArray) = X at *
   generalize wr.alloc (.cells #[.int .i64 (T.k : Int), .int .i64 (T.p : Int), .string X] 70) = w5 at *
   clear c0 c1 c2
   by_cases h5 : T.k = 5
   ·rw [if_pos h5, List.append_nil] at hwt
    have h5' : (T.k : Int) = 5 := by omega
    rw [h5'] at d0
    clear h5 h5' HSh
    go_wp2_with fail
    go_roundg m
    case measure => omega
    case rel => exact ⟨j + 1, by omega, by omega, by go_num, by rw [hwt]; exact HS5⟩
   ·rw [if_neg h5] at hwt
    have h5' : ¬ (T.k : Int) = 5 := by omega
    generalize (T.k : Int) = tk at *
    generalize (T.p : Int) = tp at *
    clear h5
    go_wp2_with fail
    refine (HSh.out _).mono ?_
    rintro e w6 ⟨rfl, hb6⟩
    have HS6 := hid (HS5.out.below hb6)
    have HS7 := hid (HS6.out.below ((Below.refl w6.heap.size w6).alloc (Nat.le_refl _) (.cells #[isS (shT T)] 9)))
    have HOwn := hid HS7.out.row
    have HCn := hid (new_str w6 (shT T))
    have hone := str_ones (shT T)
    have hw6 : w.heap.size ≤ (w6.alloc (.cells #[isS (shT T)] 9)).heap.size := by
     have := HS6.out.bel.size
     rw [World.size_alloc]
     omega
    have HSn := hid (fun (v' : Value) (W2 : World) (hown : W2.ownsRow w.heap.size 9 1 v' (ws.length + 1) (ws.map isS ++ [isS (shT T)])) hg => HS7.out.snoc (shT T) HR.out hown hg)
    unfold isS at HCn hone hw6 HOwn HSn
    generalize (⟨(shT T).toArray⟩ : ByteArray) = Y at *
    clear HS5 HS6 HS7 hb6 HSh d0 d1 d2
    obtain ⟨i0, hi0, hz0, hz1, hz2⟩ := info_parts info_st
    go_wp2_with (refine wpList_append_own_at _ rfl _ _ 73 rfl w.heap.size 9 i0 (.string ⟨#[]⟩) 1 16 Tryz.underlying73 hi0 hz0 hz1 hz2 rfl (by decide) _ _ _ rfl HOwn.out ⟨w6.heap.size, 0, none⟩ 1 1 [.string Y] rfl rfl HCn.out hone (by unfold maxLen; omega) (by omega) hw6 ?_; intro u7 w7 hown7 hgrow7 _ _; have HS8 := hid (HSn.out u7 w7 hown7 hgrow7); clear hown7 hgrow7)
    go_roundg m
    case measure => omega
    case rel => exact ⟨j + 1, by omega, by omega, by go_num, by rw [hwt]; exact HS8⟩
  ·obtain rfl : j = n := by omega
   have HJ2 := hid (HJ.out wr u3 _ (by rw [HN.out, List.take_length]) HS.out.row)
   clear HJ
   have HB := hid HS.out.bel
   clear HS
   go_wp2_with fail
   refine HJ2.out.mono ?_
   rintro e w6 ⟨rfl, hb6⟩
   go_wp2
   go_ret
   exact ⟨rfl, HB.out.trans (hb6.mono HB.out.size)⟩
end Go.Proofs.YtfcccfplmdjndaaGreat

/- lex: the tokens of a text, one behind the other: plain mathematics; the reference's gap. -/
namespace Go.Proofs.YtfcccfplmdjndaaGreat
open Go.RowKit

/-- These are the tokens of what stands behind a place. -/
def Chain (l : List UInt8) : Nat → List Tk → Prop
 | _, [] => False
 | a, t :: ts => t.p = a + gap false (l.drop a) ∧ ((l.drop t.p = [] ∧ t = ⟨5, t.p, []⟩ ∧ ts = []) ∨ ∃ n, front (l.drop t.p) = .ok (t.k, t.x, n) ∧ Chain l (t.p + n) ts)
theorem chain_of (l : List UInt8) : ∀ (m p n : Nat) (ts : List Tk), scanF m (l.drop p) p n = .ok ts → Chain l p ts
 | 0, _, _, _, h => by cases h
 | m + 1, p, n, ts, h => by
  rw [scanF_succ, List.drop_drop] at h
  by_cases he : l.drop (p + gap false (l.drop p)) = []
  ·rw [he, scanG_end] at h
   injection h with h
   subst h
   exact ⟨rfl, .inl ⟨he, rfl, rfl⟩⟩
  ·by_cases hn : n = 8192
   ·rw [hn, scanG_full he] at h; cases h
   ·cases hf : front (l.drop (p + gap false (l.drop p))) with
    | error e => rw [scanG_bad he hn hf] at h; cases h
    | ok v =>
     obtain ⟨k, x, j⟩ := v
     rw [scanG_ok he hn hf, List.drop_drop] at h
     cases hr : scanF m (l.drop (p + gap false (l.drop p) + j)) (p + gap false (l.drop p) + j) (n + 1) with
     | error e => rw [hr] at h; cases h
     | ok us =>
      rw [hr] at h
      injection h with h
      subst h
      exact ⟨rfl, .inr ⟨j, hf, chain_of l m _ _ _ hr⟩⟩
theorem chain_scan {l : List UInt8} {ts : List Tk} (h : scanT l = .ok ts) : Chain l 0 ts := by
 unfold scanT at h
 split at h
 ·cases h
 ·exact chain_of l _ 0 0 ts h
/-- A token is shown as it stands. -/
theorem front_show {r : List UInt8} {k : Nat} {x : List UInt8} {n : Nat} (h : front r = .ok (k, x, n)) (p : Nat) : shT ⟨k, p, x⟩ = r.take n := by
 cases r with
 | nil => cases h
 | cons c t =>
  rw [front_cons] at h
  split at h
  ·split at h
   ·cases h
   ·simp only [Except.ok.injEq, Prod.mk.injEq] at h
    obtain ⟨rfl, rfl, rfl⟩ := h
    rfl
  ·split at h
   ·split at h
    ·cases h
    ·split at h
     ·cases h
     ·simp only [Except.ok.injEq, Prod.mk.injEq] at h
      obtain ⟨rfl, rfl, rfl⟩ := h
      rfl
   ·split at h
    ·rename_i h47
     split at h
     ·rename_i hd
      simp only [Except.ok.injEq, Prod.mk.injEq] at h
      obtain ⟨rfl, rfl, rfl⟩ := h
      have hc : c = 47 := UInt8.toNat_inj.1 h47
      subst hc
      show 47 :: (t.take (span patB t) ++ [47]) = (47 :: t).take (span patB t + 2)
      rw [show span patB t + 2 = (span patB t + 1) + 1 by omega, List.take_succ_cons]
      congr 1
      have h2 : t.drop (span patB t) = 47 :: (t.drop (span patB t)).tail := by
       cases hdd : t.drop (span patB t) with
       | nil => rw [hdd] at hd; cases hd
       | cons a u => rw [hdd] at hd; injection hd with hd; rw [hd]; rfl
      rw [List.take_add, h2]
      rfl
     ·cases h
    ·split at h
     ·rename_i h46
      simp only [Except.ok.injEq, Prod.mk.injEq] at h
      obtain ⟨rfl, rfl, rfl⟩ := h
      obtain ⟨h1, h2⟩ := h46
      have hc : c = 46 := UInt8.toNat_inj.1 h1
      subst hc
      cases t with
      | nil => cases h2
      | cons d t => injection h2 with h2; subst h2; rfl
     ·split at h
      ·simp only [Except.ok.injEq, Prod.mk.injEq] at h
       obtain ⟨rfl, rfl, rfl⟩ := h
       rfl
      ·cases h
end Go.Proofs.YtfcccfplmdjndaaGreat

/- lex: the law LexWhole, walked. -/
namespace Go.Proofs.YtfcccfplmdjndaaGreat
open Go.RowKit

theorem scan_len {l : List UInt8} : ∀ (m p n : Nat) (ts : List Tk), scanF m (l.drop p) p n = .ok ts → p ≤ l.length → p + ts.length ≤ l.length + 1
 | 0, _, _, _, h, _ => by cases h
 | m + 1, p, n, ts, h, hp => by
  rw [scanF_succ, List.drop_drop] at h
  have hg := gap_le false (l.drop p)
  rw [List.length_drop] at hg
  by_cases he : l.drop (p + gap false (l.drop p)) = []
  ·rw [he, scanG_end] at h
   injection h with h
   subst h
   simp only [List.length_cons, List.length_nil]
   omega
  ·by_cases hn : n = 8192
   ·rw [hn, scanG_full he] at h; cases h
   ·cases hf : front (l.drop (p + gap false (l.drop p))) with
    | error e => rw [scanG_bad he hn hf] at h; cases h
    | ok v =>
     obtain ⟨k, x, j⟩ := v
     have hfl := front_len hf
     rw [List.length_drop] at hfl
     rw [scanG_ok he hn hf, List.drop_drop] at h
     cases hr : scanF m (l.drop (p + gap false (l.drop p) + j)) (p + gap false (l.drop p) + j) (n + 1) with
     | error e => rw [hr] at h; cases h
     | ok us =>
      rw [hr] at h
      injection h with h
      subst h
      have := scan_len m _ _ _ hr (by omega)
      simp only [List.length_append, List.length_cons, List.length_nil]
      omega
theorem scan_ok_len {l : List UInt8} {ts : List Tk} (h : scanT l = .ok ts) : ts.length ≤ l.length + 1 := by
 unfold scanT at h
 split at h
 ·cases h
 ·have := scan_len (l := l) _ 0 0 ts h (Nat.zero_le _)
  omega
theorem scan_err : ∀ (m : Nat) (r : List UInt8) (p n : Nat) (e : Nat × Nat), r.length < m → scanF m r p n = .error e → e.1 ≠ 0
 | 0, _, _, _, _, h, _ => absurd h (by omega)
 | m + 1, r, p, n, e, hm, h => by
  rw [scanF_succ] at h
  by_cases he : r.drop (gap false r) = []
  ·rw [he, scanG_end] at h; cases h
  ·by_cases hn : n = 8192
   ·rw [hn, scanG_full he] at h
    injection h with h; subst h
    show (2 : Nat) ≠ 0
    omega
   ·cases hf : front (r.drop (gap false r)) with
    | error c =>
     rw [scanG_bad he hn hf] at h
     injection h with h; subst h
     have := front_err hf
     show c ≠ 0
     omega
    | ok v =>
     obtain ⟨k, x, j⟩ := v
     have hfl := front_len hf
     rw [List.length_drop] at hfl
     rw [scanG_ok he hn hf] at h
     cases hr : scanF m ((r.drop (gap false r)).drop j) (p + gap false r + j) (n + 1) with
     | error e2 =>
      rw [hr] at h
      injection h with h; subst h
      exact scan_err m _ _ _ _ (by rw [List.length_drop, List.length_drop]; omega) hr
     | ok us => rw [hr] at h; cases h
theorem scanT_err {l : List UInt8} {e : Nat × Nat} (h : scanT l = .error e) : e.1 ≠ 0 := by
 unfold scanT at h
 split at h
 ·injection h with h; subst h
  show (2 : Nat) ≠ 0
  omega
 ·exact scan_err _ _ _ _ _ (by omega) h
/-- What a call of Scan leaves, whatever the text. -/
theorem ScanR.un {r : Except (Nat × Nat) (List Tk)} {w : World} {e : Ending} {w' : World} (h : ScanR r w e w') (hne : ∀ e, r = .error e → e.1 ≠ 0) : Below w.heap.size w w' ∧ ∃ (A : Option Addr) (n cap : Nat) (ts : List Tk) (c p : Nat), e = .returned (.tuple #[.slice A n cap, .agg #[.int .i64 (c : Int), .int .i64 (p : Int)]]) ∧ n ≤ cap ∧ n = ts.length ∧ RdK w' A ts ∧ ((c = 0 ∧ p = 0 ∧ r = .ok ts) ∨ (c ≠ 0 ∧ r = .error (c, p) ∧ ts = [])) := by
 obtain ⟨hb, h⟩ := h
 refine ⟨hb, ?_⟩
 cases r with
 | error x =>
  obtain ⟨c, p⟩ := x
  exact ⟨none, 0, 0, [], c, p, h, Nat.le_refl _, rfl, fun h => absurd h (by simp), .inr ⟨hne _ rfl, rfl, rfl⟩⟩
 | ok ts =>
  obtain ⟨v, rfl, hown⟩ := h
  obtain ⟨A, cap, rfl⟩ := owns_shape hown
  refine ⟨A, ts.length, cap, ts, 0, 0, rfl, ?_, rfl, RdK.of_own hown rfl, .inl ⟨rfl, rfl, rfl⟩⟩
  rcases hown.2 with ⟨hv, hz⟩ | ⟨g, cp, cur, hv, hb, hg, hnc, _⟩
  ·omega
  ·injection hv with _ _ h3
   rw [h3]
   exact hnc
end Go.Proofs.YtfcccfplmdjndaaGreat

/- lex: tokens that are written anew are read as they were, and texts behind each other: plain mathematics. -/
namespace Go.Proofs.YtfcccfplmdjndaaGreat

/-- What stops a token: the end, a blank, a line's end. -/
def Stop (r : List UInt8) : Prop := r = [] ∨ (∃ t, r = 32 :: t) ∨ ∃ t, r = 10 :: t
theorem Stop.span {r : List UInt8} (h : Stop r) {p : UInt8 → Bool} (h1 : p 32 = false) (h2 : p 10 = false) : span p r = 0 := by
 rcases h with rfl | ⟨t, rfl⟩ | ⟨t, rfl⟩
 ·rfl
 ·rw [span_cons, h1, if_neg (by decide)]
 ·rw [span_cons, h2, if_neg (by decide)]
theorem span_app {p : UInt8 → Bool} {rest : List UInt8} (hr : span p rest = 0) : ∀ l, span p (l.take (span p l) ++ rest) = span p l
 | [] => hr
 | c :: t => by
  rw [span_cons]
  by_cases h : p c = true
  ·rw [if_pos h, List.take_succ_cons, List.cons_append, span_cons, if_pos h, span_app hr t]
  ·rw [if_neg h]
   exact hr
/-- A token's front, whatever stands behind it that stops it. -/
theorem front_take {r : List UInt8} {k : Nat} {x : List UInt8} {n : Nat} (h : front r = .ok (k, x, n)) {rest : List UInt8} (hs : Stop rest) : front (r.take n ++ rest) = .ok (k, x, n) := by
 have hn := front_len h
 cases r with
 | nil => cases h
 | cons c t =>
  rw [front_cons] at h
  split at h
  ·rename_i h1
   split at h
   ·cases h
   ·rename_i h24
    simp only [Except.ok.injEq, Prod.mk.injEq] at h
    obtain ⟨rfl, hx, rfl⟩ := h
    have hsp := span_app (hs.span (p := namB) (by decide) (by decide)) (c :: t)
    obtain ⟨m, hm⟩ : ∃ m, span namB (c :: t) = m + 1 := ⟨span namB (c :: t) - 1, by omega⟩
    have ht : (c :: t).take (span namB (c :: t)) ++ rest = c :: (t.take m ++ rest) := by rw [hm, List.take_succ_cons, List.cons_append]
    have htk : (c :: (t.take m ++ rest)).take (m + 1) = (c :: t).take (m + 1) := by
     rw [List.take_succ_cons, List.take_succ_cons, List.take_append_of_le_length (by rw [List.length_take]; have := hn.2.1; rw [List.length_cons] at this; omega), List.take_take, Nat.min_self]
    rw [ht] at hsp ⊢
    rw [front_cons, if_pos h1, hsp, if_neg h24, hm, htk, ← hm, hx]
  ·rename_i h1
   split at h
   ·rename_i h2
    split at h
    ·cases h
    ·rename_i h20
     split at h
     ·cases h
     ·rename_i h48
      simp only [Except.ok.injEq, Prod.mk.injEq] at h
      obtain ⟨rfl, hx, rfl⟩ := h
      have hsp := span_app (hs.span (p := digB) (by decide) (by decide)) (c :: t)
      obtain ⟨m, hm⟩ : ∃ m, span digB (c :: t) = m + 1 := ⟨span digB (c :: t) - 1, by omega⟩
      have ht : (c :: t).take (span digB (c :: t)) ++ rest = c :: (t.take m ++ rest) := by rw [hm, List.take_succ_cons, List.cons_append]
      have htk : (c :: (t.take m ++ rest)).take (m + 1) = (c :: t).take (m + 1) := by
       rw [List.take_succ_cons, List.take_succ_cons, List.take_append_of_le_length (by rw [List.length_take]; have := hn.2.1; rw [List.length_cons] at this; omega), List.take_take, Nat.min_self]
      rw [ht] at hsp ⊢
      rw [front_cons, if_neg h1, if_pos h2, hsp, if_neg h20, if_neg h48, hm, htk, ← hm, hx]
   ·rename_i h2
    split at h
    ·rename_i h47
     split at h
     ·rename_i hd
      simp only [Except.ok.injEq, Prod.mk.injEq] at h
      obtain ⟨rfl, hx, rfl⟩ := h
      obtain ⟨u, hu⟩ : ∃ u, t.drop (span patB t) = 47 :: u := by
       cases hdd : t.drop (span patB t) with
       | nil => rw [hdd] at hd; cases hd
       | cons a u => rw [hdd] at hd; injection hd with hd; rw [hd]; exact ⟨u, rfl⟩
      have h3 : (c :: t).take (span patB t + 2) ++ rest = c :: (t.take (span patB t) ++ 47 :: rest) := by
       rw [show span patB t + 2 = (span patB t + 1) + 1 by omega, List.take_succ_cons, List.cons_append, List.take_add, hu]
       simp
      have h4 : span patB (t.take (span patB t) ++ 47 :: rest) = span patB t := span_app (by rw [span_cons]; rfl) t
      have h5 : (t.take (span patB t) ++ 47 :: rest).drop (span patB t) = 47 :: rest := by
       rw [List.drop_append_of_le_length (by rw [List.length_take]; have := span_le patB t; omega), List.drop_eq_nil_of_le (by rw [List.length_take]; omega)]
       rfl
      have h6 : (t.take (span patB t) ++ 47 :: rest).take (span patB t) = t.take (span patB t) := by
       rw [List.take_append_of_le_length (by rw [List.length_take]; have := span_le patB t; omega), List.take_take, Nat.min_self]
      rw [h3, front_cons, if_neg h1, if_neg h2, if_pos h47, h4, h5, if_pos (show (47 :: rest).head? = some 47 from rfl), h6, hx]
     ·cases h
    ·rename_i h47
     split at h
     ·rename_i h46
      simp only [Except.ok.injEq, Prod.mk.injEq] at h
      obtain ⟨rfl, rfl, rfl⟩ := h
      cases t with
      | nil => cases h46.2
      | cons d t =>
       have h3 : (c :: d :: t).take 2 ++ rest = c :: d :: rest := rfl
       rw [h3, front_cons, if_neg h1, if_neg h2, if_neg h47, if_pos ⟨h46.1, h46.2⟩]
     ·split at h
      ·rename_i hsg
       simp only [Except.ok.injEq, Prod.mk.injEq] at h
       obtain ⟨rfl, rfl, rfl⟩ := h
       have h3 : (c :: t).take 1 ++ rest = c :: rest := rfl
       have h46 : ¬ c.toNat = 46 := by
        intro e
        have : c = 46 := UInt8.toNat_inj.1 e
        subst this
        revert hsg
        decide
       rw [h3, front_cons, if_neg h1, if_neg h2, if_neg h47, if_neg (fun h => h46 h.1), if_pos hsg]
      ·cases h
theorem blank_front : ∀ c : Fin 256, (c.1 = 10 ∨ c.1 = 32 ∨ c.1 = 9 ∨ c.1 = 13 ∨ c.1 = 35) → letN c.1 = false ∧ digN c.1 = false ∧ c.1 ≠ 47 ∧ c.1 ≠ 46 ∧ sgB (UInt8.ofNat c.1) = false := by decide +kernel
/-- Where a token begins, no gap is. -/
theorem front_gap {r : List UInt8} {k : Nat} {x : List UInt8} {n : Nat} (h : front r = .ok (k, x, n)) : gap false r = 0 := by
 cases r with
 | nil => rfl
 | cons c t =>
  have key : ¬ (c.toNat = 10 ∨ c.toNat = 32 ∨ c.toNat = 9 ∨ c.toNat = 13 ∨ c.toNat = 35) := by
   intro hb
   obtain ⟨h1, h2, h3, h4, h5⟩ := blank_front ⟨c.toNat, c.toNat_lt⟩ hb
   simp only at h1 h2 h3 h4
   have h5' : sgB c = false := by simpa using h5
   rw [front_cons, h1, h2, if_neg (by decide), if_neg (by decide), if_neg h3, if_neg (fun h => h4 h.1), h5', if_neg (by decide)] at h
   cases h
  rw [gap_cons, if_neg (fun h => key (.inl h)), if_neg (fun h => key (by rcases h with h | h | h | h; cases h; exact .inr (.inl h); exact .inr (.inr (.inl h)); exact .inr (.inr (.inr (.inl h))))), if_neg (fun h => key (.inr (.inr (.inr (.inr h)))))]
/-- Two lists of tokens are the same, but for where they stand. -/
def Alike (a b : List Tk) : Prop := a.map (fun t => (t.k, t.x)) = b.map (fun t => (t.k, t.x))
/-- Tokens of which each is read as it is written. -/
def Good (t : Tk) : Prop := ∃ r, front r = .ok (t.k, t.x, (shT t).length) ∧ shT t = r.take (shT t).length
theorem Good.of {r : List UInt8} {k : Nat} {x : List UInt8} {n : Nat} (h : front r = .ok (k, x, n)) (p : Nat) : Good ⟨k, p, x⟩ := by
 have h1 := front_show h p
 have h2 := front_len h
 have h3 : (shT ⟨k, p, x⟩).length = n := by rw [h1, List.length_take]; omega
 exact ⟨r, by rw [h3]; exact h, by rw [h3]; exact h1⟩
theorem Good.front {t : Tk} (h : Good t) {rest : List UInt8} (hs : Stop rest) : front (shT t ++ rest) = .ok (t.k, t.x, (shT t).length) := by
 obtain ⟨r, h1, h2⟩ := h
 have := front_take h1 hs
 rw [← h2] at this
 exact this
theorem Good.pos {t : Tk} (h : Good t) : 0 < (shT t).length ∧ t.k ≤ 4 := by
 obtain ⟨r, h1, _⟩ := h
 have := front_len h1
 omega
/-- The tokens but the last, which is the end. -/
theorem chain_split {l : List UInt8} : ∀ (ts : List Tk) (a : Nat), Chain l a ts → ∃ gs e, ts = gs ++ [e] ∧ e.k = 5 ∧ e.x = [] ∧ (∀ g ∈ gs, Good g) ∧ a + (gs.map (fun g => (shT g).length)).sum ≤ l.length + a ∧ (a ≤ l.length → (gs.map (fun g => (shT g).length)).sum ≤ l.length - a)
 | [], _, h => h.elim
 | t :: ts, a, h => by
  obtain ⟨hp, h⟩ := h
  rcases h with ⟨_, h2, h3⟩ | ⟨n, hf, hc⟩
  ·refine ⟨[], t, by rw [h3]; rfl, by rw [h2], by rw [h2], by simp, by simp, by simp⟩
  ·obtain ⟨gs, e, h1, h2, h3, h4, h5, h6⟩ := chain_split ts _ hc
   have hg := Good.of hf t.p
   have hsh := front_show hf t.p
   have hfl := front_len hf
   rw [List.length_drop] at hfl
   have hlen : (shT t).length = n := by
    have h7 : shT t = (l.drop t.p).take n := hsh
    rw [h7, List.length_take, List.length_drop]
    omega
   have h7 := h6 (by omega)
   refine ⟨t :: gs, e, by rw [h1]; rfl, h2, h3, fun g hg' => ?_, ?_, fun ha => ?_⟩
   ·rcases List.mem_cons.1 hg' with rfl | hg'
    ·exact hg
    ·exact h4 g hg'
   ·simp only [List.map_cons, List.sum_cons]
    omega
   ·simp only [List.map_cons, List.sum_cons]
    omega
theorem words_good {gs : List Tk} {e : Tk} (h : ∀ g ∈ gs, Good g) (he : e.k = 5) : wordsT (gs ++ [e]) = gs.map shT := by
 unfold wordsT
 rw [List.filter_append]
 have h1 : gs.filter (fun t => !decide (t.k = 5)) = gs := List.filter_eq_self.2 (fun g hg => by
  have := (h g hg).pos.2
  simp
  omega)
 rw [h1]
 simp [he]
theorem tail_stop (ws : List (List UInt8)) : Stop (Lib.joinTail [32] ws) := by
 cases ws with
 | nil => exact .inl rfl
 | cons w ws => exact .inr (.inl ⟨w ++ Lib.joinTail [32] ws, by simp [Lib.joinTail]⟩)
theorem tail_cons (w : List UInt8) (ws : List (List UInt8)) : Lib.joinTail [32] (w :: ws) = 32 :: (w ++ Lib.joinTail [32] ws) := by simp [Lib.joinTail]
theorem scan_word {g : Tk} (hg : Good g) {rest : List UInt8} (hs : Stop rest) (m p n : Nat) (hn : n ≠ 8192) : scanG m (shT g ++ rest) p n = thenR [⟨g.k, p, g.x⟩] (scanF m rest (p + (shT g).length) (n + 1)) := by
 have hpos := hg.pos.1
 have hne : shT g ++ rest ≠ [] := by
  intro e
  have := congrArg List.length e
  rw [List.length_append, List.length_nil] at this
  omega
 rw [scanG_ok hne hn (hg.front hs), List.drop_left]
theorem scan_tail : ∀ (gs : List Tk) (m p n : Nat), (∀ g ∈ gs, Good g) → gs.length < m → n + gs.length ≤ 8192 → ∃ us, scanF m (Lib.joinTail [32] (gs.map shT)) p n = .ok us ∧ Alike us (gs ++ [⟨5, 0, []⟩])
 | [], m, p, n, _, hm, _ => by
  obtain ⟨m, rfl⟩ : ∃ q, m = q + 1 := ⟨m - 1, by simp at hm; omega⟩
  exact ⟨_, rfl, rfl⟩
 | g :: gs, m, p, n, hg, hm, hn => by
  obtain ⟨m, rfl⟩ : ∃ q, m = q + 1 := ⟨m - 1, by simp at hm; omega⟩
  have hg1 := hg g (by simp)
  have hst := tail_stop (gs.map shT)
  obtain ⟨us, h1, h2⟩ := scan_tail gs m (p + 1 + (shT g).length) (n + 1) (fun x hx => hg x (List.mem_cons_of_mem _ hx)) (by simp at hm; omega) (by simp at hn; omega)
  have hgap : gap false (32 :: (shT g ++ Lib.joinTail [32] (gs.map shT))) = 1 := by
   rw [gap_cons, if_neg (by decide), if_pos (by decide), front_gap (hg1.front hst)]
  refine ⟨⟨g.k, p + 1, g.x⟩ :: us, ?_, ?_⟩
  ·rw [List.map_cons, tail_cons, scanF_succ, hgap, List.drop_succ_cons, List.drop_zero, scan_word hg1 hst m (p + 1) n (by simp at hn; omega), h1]
   rfl
  ·unfold Alike at h2 ⊢
   rw [List.map_cons, h2]
   rfl
theorem tail_len : ∀ gs : List Tk, (Lib.joinTail [32] (gs.map shT)).length = (gs.map (fun g => (shT g).length)).sum + gs.length
 | [] => rfl
 | g :: gs => by
  rw [List.map_cons, tail_cons, List.length_cons, List.length_append, tail_len gs]
  simp only [List.map_cons, List.sum_cons, List.length_cons]
  omega
/-- The tokens of a text, written with a blank between two, are the same tokens again. -/
theorem back_scan {l : List UInt8} {ts : List Tk} (h : scanT l = .ok ts) (hl : l.length ≤ 3000) : (joinT ts).length ≤ 6000 ∧ ∃ us, scanT (joinT ts) = .ok us ∧ Alike us ts := by
 obtain ⟨gs, e, rfl, h2, h3, h4, _, h6⟩ := chain_split ts 0 (chain_scan h)
 have hn := scan_ok_len h
 rw [List.length_append, List.length_cons, List.length_nil] at hn
 have h7 := h6 (Nat.zero_le _)
 have hw := words_good h4 h2
 have hlen := tail_len gs
 have hend : Alike [⟨5, 0, []⟩] [e] := by
  unfold Alike
  simp [h2, h3]
 have hjt : joinT (gs ++ [e]) = Lib.join (gs.map shT) [32] := by unfold joinT; rw [hw]
 cases gs with
 | nil =>
  rw [hjt]
  refine ⟨by simp [Lib.join_nil], [⟨5, 0, []⟩], ?_, ?_⟩
  ·rw [List.map_nil, Lib.join_nil]; rfl
  ·exact hend
 | cons g gs =>
  have hg1 := h4 g (by simp)
  have hst := tail_stop (gs.map shT)
  rw [List.map_cons, Lib.join_cons] at hjt
  rw [List.map_cons, tail_cons, List.length_cons, List.length_append] at hlen
  simp only [List.length_cons] at hn hlen
  have hjl : (joinT (g :: gs ++ [e])).length ≤ 6000 := by
   rw [hjt, List.length_append]
   omega
  refine ⟨hjl, ?_⟩
  obtain ⟨us, k1, k2⟩ := scan_tail gs ((joinT (g :: gs ++ [e])).length + 1) (0 + 0 + (shT g).length) (0 + 1) (fun x hx => h4 x (List.mem_cons_of_mem _ hx)) (by
   rw [hjt, List.length_append]
   have := tail_len gs
   omega) (by omega)
  refine ⟨⟨g.k, 0, g.x⟩ :: us, ?_, ?_⟩
  ·unfold scanT
   rw [if_neg (by omega), scanF_succ]
   have hgap : gap false (joinT (g :: gs ++ [e])) = 0 := by rw [hjt]; exact front_gap (hg1.front hst)
   rw [hgap, List.drop_zero]
   have hj2 : scanG ((joinT (g :: gs ++ [e])).length + 1) (joinT (g :: gs ++ [e])) (0 + 0) 0 = scanG ((joinT (g :: gs ++ [e])).length + 1) (shT g ++ Lib.joinTail [32] (gs.map shT)) (0 + 0) 0 := by
    congr 1
   rw [hj2, scan_word hg1 hst _ _ _ (by omega), k1]
   rfl
  ·unfold Alike at k2 hend ⊢
   rw [List.map_cons, k2, List.cons_append, List.map_cons, List.map_append, List.map_append, hend]
end Go.Proofs.YtfcccfplmdjndaaGreat

/- lex: how long a token's text is. -/
namespace Go.Proofs.YtfcccfplmdjndaaGreat
open Go.RowKit

theorem tk_x_len {l : List UInt8} {k : Nat} {x : List UInt8} {n : Nat} (h : front l = .ok (k, x, n)) : x.length ≤ l.length := by
 have h1 := front_show h 0
 have h2 := congrArg List.length h1
 rw [List.length_take] at h2
 unfold shT at h2
 by_cases h3 : k = 3
 ·rw [if_pos h3] at h2
  simp only [List.length_cons, List.length_append, List.length_nil] at h2
  omega
 ·rw [if_neg h3] at h2
  simp only at h2
  omega
theorem chain_x {l : List UInt8} : ∀ (ts : List Tk) (a : Nat), Chain l a ts → ∀ t ∈ ts, t.x.length ≤ l.length
 | [], _, h => h.elim
 | t :: ts, a, h => by
  obtain ⟨hp, h⟩ := h
  intro u hu
  rcases h with ⟨_, h2, h3⟩ | ⟨n, hf, hc⟩
  ·subst h3
   simp only [List.mem_cons, List.not_mem_nil, or_false] at hu
   subst hu
   rw [h2]
   simp
  ·rcases List.mem_cons.1 hu with rfl | hu
   ·have := tk_x_len hf
    rw [List.length_drop] at this
    omega
   ·exact chain_x ts _ hc u hu
end Go.Proofs.YtfcccfplmdjndaaGreat
