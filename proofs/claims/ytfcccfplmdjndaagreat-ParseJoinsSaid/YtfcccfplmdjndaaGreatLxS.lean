/- lex: Join. -/
import Derived.Test.YtfcccfplmdjndaaGreatLxI
import Derived.Lib.Join
namespace Go.Proofs.YtfcccfplmdjndaaGreat
open Go.RowKit

def isS (l : List UInt8) : Value := .string ⟨l.toArray⟩
structure JnSt (w : World) (A : Option Addr) (ts : List Tk) (v : Value) (ws : List (List UInt8)) (W : World) : Prop where
 bel : Below w.heap.size w W
 rd : RdK W A ts
 row : W.ownsRow w.heap.size 9 1 v ws.length (ws.map isS)
theorem JnSt.below {w W W' : World} {A : Option Addr} {ts : List Tk} {v : Value} {ws : List (List UInt8)} (h : JnSt w A ts v ws W) (hb : Below W.heap.size W W') : JnSt w A ts v ws W' :=
 ⟨h.bel.trans (hb.mono h.bel.size), h.rd.keep hb, owns_keep h.row (fun b _ hl => hb.block b hl)⟩
theorem JnSt.snoc {w W1 W2 : World} {A : Option Addr} {ts : List Tk} {v v' : Value} {ws : List (List UInt8)} (x : List UInt8) (hr : RdK w A ts) (h : JnSt w A ts v ws W1)
  (hown : W2.ownsRow w.heap.size 9 1 v' (ws.length + 1) (ws.map isS ++ [isS x])) (hg : W1.grownBy W2 v.ownBlock) : JnSt w A ts v' (ws ++ [x]) W2 := by
 have hge := owns_block h.row
 have hb : Below w.heap.size w W2 := ⟨hg.os.trans h.bel.os, hg.tape.trans h.bel.tape, hg.output.trans h.bel.output, Nat.le_trans h.bel.size hg.size, fun k hk => (hg.block k (Nat.lt_of_lt_of_le hk h.bel.size) (fun e => by have := hge k e.symm; omega)).trans (h.bel.block k hk)⟩
 exact ⟨hb, hr.keep hb, by rw [List.length_append, List.map_append]; exact hown⟩
end Go.Proofs.YtfcccfplmdjndaaGreat

/- lex: the tokens of a text, one behind the other: plain mathematics; the reference's gap. -/
namespace Go.Proofs.YtfcccfplmdjndaaGreat
open Go.RowKit

def Chain (l : List UInt8) : Nat → List Tk → Prop
 | _, [] => False
 | a, t :: ts => t.p = a + gap false (l.drop a) ∧ ((l.drop t.p = [] ∧ t = ⟨5, t.p, []⟩ ∧ ts = []) ∨ ∃ n, front (l.drop t.p) = .ok (t.k, t.x, n) ∧ Chain l (t.p + n) ts)
theorem chain_of (l : List UInt8) : ∀ (m p n : Nat) (ts : List Tk), scanF m (l.drop p) p n = .ok ts → Chain l p ts
 | 0, _, _, _, h => by cases h
 | m + 1, p, n, ts, h => by
  rw [scanF_succ, List.drop_drop] at h
  by_cases he : l.drop (p + gap false (l.drop p)) = []
  ·rw [he, scanG_end] at h
   injection h with h
   subst h
   exact ⟨rfl, .inl ⟨he, rfl, rfl⟩⟩
  ·by_cases hn : n = 8192
   ·rw [hn, scanG_full he] at h; cases h
   ·cases hf : front (l.drop (p + gap false (l.drop p))) with
    | error e => rw [scanG_bad he hn hf] at h; cases h
    | ok v =>
     obtain ⟨k, x, j⟩ := v
     rw [scanG_ok he hn hf, List.drop_drop] at h
     cases hr : scanF m (l.drop (p + gap false (l.drop p) + j)) (p + gap false (l.drop p) + j) (n + 1) with
     | error e => rw [hr] at h; cases h
     | ok us =>
      rw [hr] at h
      injection h with h
      subst h
      exact ⟨rfl, .inr ⟨j, hf, chain_of l m _ _ _ hr⟩⟩
theorem chain_scan {l : List UInt8} {ts : List Tk} (h : scanT l = .ok ts) : Chain l 0 ts := by
 unfold scanT at h
 split at h
 ·cases h
 ·exact chain_of l _ 0 0 ts h
theorem front_show {r : List UInt8} {k : Nat} {x : List UInt8} {n : Nat} (h : front r = .ok (k, x, n)) (p : Nat) : shT ⟨k, p, x⟩ = r.take n := by
 cases r with
 | nil => cases h
 | cons c t =>
  rw [front_cons] at h
  split at h
  ·split at h
   ·cases h
   ·simp only [Except.ok.injEq, Prod.mk.injEq] at h
    obtain ⟨rfl, rfl, rfl⟩ := h
    rfl
  ·split at h
   ·split at h
    ·cases h
    ·split at h
     ·cases h
     ·simp only [Except.ok.injEq, Prod.mk.injEq] at h
      obtain ⟨rfl, rfl, rfl⟩ := h
      rfl
   ·split at h
    ·rename_i h47
     split at h
     ·rename_i hd
      simp only [Except.ok.injEq, Prod.mk.injEq] at h
      obtain ⟨rfl, rfl, rfl⟩ := h
      have hc : c = 47 := UInt8.toNat_inj.1 h47
      subst hc
      show 47 :: (t.take (span patB t) ++ [47]) = (47 :: t).take (span patB t + 2)
      rw [show span patB t + 2 = (span patB t + 1) + 1 by omega, List.take_succ_cons]
      congr 1
      have h2 : t.drop (span patB t) = 47 :: (t.drop (span patB t)).tail := by
       cases hdd : t.drop (span patB t) with
       | nil => rw [hdd] at hd; cases hd
       | cons a u => rw [hdd] at hd; injection hd with hd; rw [hd]; rfl
      rw [List.take_add, h2]
      rfl
     ·cases h
    ·split at h
     ·rename_i h46
      simp only [Except.ok.injEq, Prod.mk.injEq] at h
      obtain ⟨rfl, rfl, rfl⟩ := h
      obtain ⟨h1, h2⟩ := h46
      have hc : c = 46 := UInt8.toNat_inj.1 h1
      subst hc
      cases t with
      | nil => cases h2
      | cons d t => injection h2 with h2; subst h2; rfl
     ·split at h
      ·simp only [Except.ok.injEq, Prod.mk.injEq] at h
       obtain ⟨rfl, rfl, rfl⟩ := h
       rfl
      ·cases h
end Go.Proofs.YtfcccfplmdjndaaGreat

/- lex: the law LexWhole, walked. -/
namespace Go.Proofs.YtfcccfplmdjndaaGreat
open Go.RowKit

theorem scan_err : ∀ (m : Nat) (r : List UInt8) (p n : Nat) (e : Nat × Nat), r.length < m → scanF m r p n = .error e → e.1 ≠ 0
 | 0, _, _, _, _, h, _ => absurd h (by omega)
 | m + 1, r, p, n, e, hm, h => by
  rw [scanF_succ] at h
  by_cases he : r.drop (gap false r) = []
  ·rw [he, scanG_end] at h; cases h
  ·by_cases hn : n = 8192
   ·rw [hn, scanG_full he] at h
    injection h with h; subst h
    show (2 : Nat) ≠ 0
    omega
   ·cases hf : front (r.drop (gap false r)) with
    | error c =>
     rw [scanG_bad he hn hf] at h
     injection h with h; subst h
     have := front_err hf
     show c ≠ 0
     omega
    | ok v =>
     obtain ⟨k, x, j⟩ := v
     have hfl := front_len hf
     rw [List.length_drop] at hfl
     rw [scanG_ok he hn hf] at h
     cases hr : scanF m ((r.drop (gap false r)).drop j) (p + gap false r + j) (n + 1) with
     | error e2 =>
      rw [hr] at h
      injection h with h; subst h
      exact scan_err m _ _ _ _ (by rw [List.length_drop, List.length_drop]; omega) hr
     | ok us => rw [hr] at h; cases h
theorem scanT_err {l : List UInt8} {e : Nat × Nat} (h : scanT l = .error e) : e.1 ≠ 0 := by
 unfold scanT at h
 split at h
 ·injection h with h; subst h
  show (2 : Nat) ≠ 0
  omega
 ·exact scan_err _ _ _ _ _ (by omega) h
theorem ScanR.un {r : Except (Nat × Nat) (List Tk)} {w : World} {e : Ending} {w' : World} (h : ScanR r w e w') (hne : ∀ e, r = .error e → e.1 ≠ 0) : Below w.heap.size w w' ∧ ∃ (A : Option Addr) (n cap : Nat) (ts : List Tk) (c p : Nat), e = .returned (.tuple #[.slice A n cap, .agg #[.int .i64 (c : Int), .int .i64 (p : Int)]]) ∧ n ≤ cap ∧ n = ts.length ∧ RdK w' A ts ∧ ((c = 0 ∧ p = 0 ∧ r = .ok ts) ∨ (c ≠ 0 ∧ r = .error (c, p) ∧ ts = [])) := by
 obtain ⟨hb, h⟩ := h
 refine ⟨hb, ?_⟩
 cases r with
 | error x =>
  obtain ⟨c, p⟩ := x
  exact ⟨none, 0, 0, [], c, p, h, Nat.le_refl _, rfl, fun h => absurd h (by simp), .inr ⟨hne _ rfl, rfl, rfl⟩⟩
 | ok ts =>
  obtain ⟨v, rfl, hown⟩ := h
  obtain ⟨A, cap, rfl⟩ := owns_shape hown
  refine ⟨A, ts.length, cap, ts, 0, 0, rfl, ?_, rfl, RdK.of_own hown rfl, .inl ⟨rfl, rfl, rfl⟩⟩
  rcases hown.2 with ⟨hv, hz⟩ | ⟨g, cp, cur, hv, hb, hg, hnc, _⟩
  ·omega
  ·injection hv with _ _ h3
   rw [h3]
   exact hnc
end Go.Proofs.YtfcccfplmdjndaaGreat

/- lex: tokens that are written anew are read as they were, and texts behind each other: plain mathematics. -/
namespace Go.Proofs.YtfcccfplmdjndaaGreat

def Stop (r : List UInt8) : Prop := r = [] ∨ (∃ t, r = 32 :: t) ∨ ∃ t, r = 10 :: t
theorem Stop.span {r : List UInt8} (h : Stop r) {p : UInt8 → Bool} (h1 : p 32 = false) (h2 : p 10 = false) : span p r = 0 := by
 rcases h with rfl | ⟨t, rfl⟩ | ⟨t, rfl⟩
 ·rfl
 ·rw [span_cons, h1, if_neg (by decide)]
 ·rw [span_cons, h2, if_neg (by decide)]
theorem span_app {p : UInt8 → Bool} {rest : List UInt8} (hr : span p rest = 0) : ∀ l, span p (l.take (span p l) ++ rest) = span p l
 | [] => hr
 | c :: t => by
  rw [span_cons]
  by_cases h : p c = true
  ·rw [if_pos h, List.take_succ_cons, List.cons_append, span_cons, if_pos h, span_app hr t]
  ·rw [if_neg h]
   exact hr
theorem front_take {r : List UInt8} {k : Nat} {x : List UInt8} {n : Nat} (h : front r = .ok (k, x, n)) {rest : List UInt8} (hs : Stop rest) : front (r.take n ++ rest) = .ok (k, x, n) := by
 have hn := front_len h
 cases r with
 | nil => cases h
 | cons c t =>
  rw [front_cons] at h
  split at h
  ·rename_i h1
   split at h
   ·cases h
   ·rename_i h24
    simp only [Except.ok.injEq, Prod.mk.injEq] at h
    obtain ⟨rfl, hx, rfl⟩ := h
    have hsp := span_app (hs.span (p := namB) (by decide) (by decide)) (c :: t)
    obtain ⟨m, hm⟩ : ∃ m, span namB (c :: t) = m + 1 := ⟨span namB (c :: t) - 1, by omega⟩
    have ht : (c :: t).take (span namB (c :: t)) ++ rest = c :: (t.take m ++ rest) := by rw [hm, List.take_succ_cons, List.cons_append]
    have htk : (c :: (t.take m ++ rest)).take (m + 1) = (c :: t).take (m + 1) := by
     rw [List.take_succ_cons, List.take_succ_cons, List.take_append_of_le_length (by rw [List.length_take]; have := hn.2.1; rw [List.length_cons] at this; omega), List.take_take, Nat.min_self]
    rw [ht] at hsp ⊢
    rw [front_cons, if_pos h1, hsp, if_neg h24, hm, htk, ← hm, hx]
  ·rename_i h1
   split at h
   ·rename_i h2
    split at h
    ·cases h
    ·rename_i h20
     split at h
     ·cases h
     ·rename_i h48
      simp only [Except.ok.injEq, Prod.mk.injEq] at h
      obtain ⟨rfl, hx, rfl⟩ := h
      have hsp := span_app (hs.span (p := digB) (by decide) (by decide)) (c :: t)
      obtain ⟨m, hm⟩ : ∃ m, span digB (c :: t) = m + 1 := ⟨span digB (c :: t) - 1, by omega⟩
      have ht : (c :: t).take (span digB (c :: t)) ++ rest = c :: (t.take m ++ rest) := by rw [hm, List.take_succ_cons, List.cons_append]
      have htk : (c :: (t.take m ++ rest)).take (m + 1) = (c :: t).take (m + 1) := by
       rw [List.take_succ_cons, List.take_succ_cons, List.take_append_of_le_length (by rw [List.length_take]; have := hn.2.1; rw [List.length_cons] at this; omega), List.take_take, Nat.min_self]
      rw [ht] at hsp ⊢
      rw [front_cons, if_neg h1, if_pos h2, hsp, if_neg h20, if_neg h48, hm, htk, ← hm, hx]
   ·rename_i h2
    split at h
    ·rename_i h47
     split at h
     ·rename_i hd
      simp only [Except.ok.injEq, Prod.mk.injEq] at h
      obtain ⟨rfl, hx, rfl⟩ := h
      obtain ⟨u, hu⟩ : ∃ u, t.drop (span patB t) = 47 :: u := by
       cases hdd : t.drop (span patB t) with
       | nil => rw [hdd] at hd; cases hd
       | cons a u => rw [hdd] at hd; injection hd with hd; rw [hd]; exact ⟨u, rfl⟩
      have h3 : (c :: t).take (span patB t + 2) ++ rest = c :: (t.take (span patB t) ++ 47 :: rest) := by
       rw [show span patB t + 2 = (span patB t + 1) + 1 by omega, List.take_succ_cons, List.cons_append, List.take_add, hu]
       simp
      have h4 : span patB (t.take (span patB t) ++ 47 :: rest) = span patB t := span_app (by rw [span_cons]; rfl) t
      have h5 : (t.take (span patB t) ++ 47 :: rest).drop (span patB t) = 47 :: rest := by
       rw [List.drop_append_of_le_length (by rw [List.length_take]; have := span_le patB t; omega), List.drop_eq_nil_of_le (by rw [List.length_take]; omega)]
       rfl
      have h6 : (t.take (span patB t) ++ 47 :: rest).take (span patB t) = t.take (span patB t) := by
       rw [List.take_append_of_le_length (by rw [List.length_take]; have := span_le patB t; omega), List.take_take, Nat.min_self]
      rw [h3, front_cons, if_neg h1, if_neg h2, if_pos h47, h4, h5, if_pos (show (47 :: rest).head? = some 47 from rfl), h6, hx]
     ·cases h
    ·rename_i h47
     split at h
     ·rename_i h46
      simp only [Except.ok.injEq, Prod.mk.injEq] at h
      obtain ⟨rfl, rfl, rfl⟩ := h
      cases t with
      | nil => cases h46.2
      | cons d t =>
       have h3 : (c :: d :: t).take 2 ++ rest = c :: d :: rest := rfl
       rw [h3, front_cons, if_neg h1, if_neg h2, if_neg h47, if_pos ⟨h46.1, h46.2⟩]
     ·split at h
      ·rename_i hsg
       simp only [Except.ok.injEq, Prod.mk.injEq] at h
       obtain ⟨rfl, rfl, rfl⟩ := h
       have h3 : (c :: t).take 1 ++ rest = c :: rest := rfl
       have h46 : ¬ c.toNat = 46 := by
        intro e
        have : c = 46 := UInt8.toNat_inj.1 e
        subst this
        revert hsg
        decide
       rw [h3, front_cons, if_neg h1, if_neg h2, if_neg h47, if_neg (fun h => h46 h.1), if_pos hsg]
      ·cases h
def Alike (a b : List Tk) : Prop := a.map (fun t => (t.k, t.x)) = b.map (fun t => (t.k, t.x))
def Good (t : Tk) : Prop := ∃ r, front r = .ok (t.k, t.x, (shT t).length) ∧ shT t = r.take (shT t).length
theorem Good.of {r : List UInt8} {k : Nat} {x : List UInt8} {n : Nat} (h : front r = .ok (k, x, n)) (p : Nat) : Good ⟨k, p, x⟩ := by
 have h1 := front_show h p
 have h2 := front_len h
 have h3 : (shT ⟨k, p, x⟩).length = n := by rw [h1, List.length_take]; omega
 exact ⟨r, by rw [h3]; exact h, by rw [h3]; exact h1⟩
theorem Good.front {t : Tk} (h : Good t) {rest : List UInt8} (hs : Stop rest) : front (shT t ++ rest) = .ok (t.k, t.x, (shT t).length) := by
 obtain ⟨r, h1, h2⟩ := h
 have := front_take h1 hs
 rw [← h2] at this
 exact this
theorem Good.pos {t : Tk} (h : Good t) : 0 < (shT t).length ∧ t.k ≤ 4 := by
 obtain ⟨r, h1, _⟩ := h
 have := front_len h1
 omega
theorem chain_split {l : List UInt8} : ∀ (ts : List Tk) (a : Nat), Chain l a ts → ∃ gs e, ts = gs ++ [e] ∧ e.k = 5 ∧ e.x = [] ∧ (∀ g ∈ gs, Good g) ∧ a + (gs.map (fun g => (shT g).length)).sum ≤ l.length + a ∧ (a ≤ l.length → (gs.map (fun g => (shT g).length)).sum ≤ l.length - a)
 | [], _, h => h.elim
 | t :: ts, a, h => by
  obtain ⟨hp, h⟩ := h
  rcases h with ⟨_, h2, h3⟩ | ⟨n, hf, hc⟩
  ·refine ⟨[], t, by rw [h3]; rfl, by rw [h2], by rw [h2], by simp, by simp, by simp⟩
  ·obtain ⟨gs, e, h1, h2, h3, h4, h5, h6⟩ := chain_split ts _ hc
   have hg := Good.of hf t.p
   have hsh := front_show hf t.p
   have hfl := front_len hf
   rw [List.length_drop] at hfl
   have hlen : (shT t).length = n := by
    have h7 : shT t = (l.drop t.p).take n := hsh
    rw [h7, List.length_take, List.length_drop]
    omega
   have h7 := h6 (by omega)
   refine ⟨t :: gs, e, by rw [h1]; rfl, h2, h3, fun g hg' => ?_, ?_, fun ha => ?_⟩
   ·rcases List.mem_cons.1 hg' with rfl | hg'
    ·exact hg
    ·exact h4 g hg'
   ·simp only [List.map_cons, List.sum_cons]
    omega
   ·simp only [List.map_cons, List.sum_cons]
    omega
end Go.Proofs.YtfcccfplmdjndaaGreat

/- lex: two texts with a line end between: plain mathematics. -/
namespace Go.Proofs.YtfcccfplmdjndaaGreat

theorem scan_fuel : ∀ (m m' : Nat) (r : List UInt8) (p n : Nat), r.length < m → r.length < m' → scanF m r p n = scanF m' r p n
 | 0, _, _, _, _, h, _ => absurd h (by omega)
 | m + 1, m', r, p, n, h, h' => by
  obtain ⟨m', rfl⟩ : ∃ q, m' = q + 1 := ⟨m' - 1, by omega⟩
  rw [scanF_succ, scanF_succ]
  by_cases he : r.drop (gap false r) = []
  ·rw [he, scanG_end, scanG_end]
  ·by_cases hn : n = 8192
   ·rw [hn, scanG_full he, scanG_full he]
   ·cases hf : front (r.drop (gap false r)) with
    | error e => rw [scanG_bad he hn hf, scanG_bad he hn hf]
    | ok v =>
     obtain ⟨k, x, j⟩ := v
     have hfl := front_len hf
     rw [List.length_drop] at hfl
     rw [scanG_ok he hn hf, scanG_ok he hn hf, scan_fuel m m' _ _ _ (by rw [List.length_drop, List.length_drop]; omega) (by rw [List.length_drop, List.length_drop]; omega)]
def Shift (d : Nat) : Except (Nat × Nat) (List Tk) → Except (Nat × Nat) (List Tk) → Prop
 | .error (c, q), r => r = .error (c, q + d)
 | .ok ts, r => ∃ us, r = .ok us ∧ Alike us ts
theorem Alike.cons {a b : List Tk} (h : Alike a b) (k p q : Nat) (x : List UInt8) : Alike (⟨k, p, x⟩ :: a) (⟨k, q, x⟩ :: b) := by
 unfold Alike at h ⊢
 rw [List.map_cons, h]
 rfl
theorem Alike.app {a b c d : List Tk} (h : Alike a b) (h2 : Alike c d) : Alike (a ++ c) (b ++ d) := by
 unfold Alike at h h2 ⊢
 rw [List.map_append, List.map_append, h, h2]
theorem Alike.refl (a : List Tk) : Alike a a := rfl
theorem scan_shift (d : Nat) : ∀ (m : Nat) (r : List UInt8) (p n n' : Nat), r.length < m → n + r.length < 8192 → n' + r.length < 8192 → Shift d (scanF m r p n) (scanF m r (p + d) n')
 | 0, _, _, _, _, h, _, _ => absurd h (by omega)
 | m + 1, r, p, n, n', h, hn, hn' => by
  rw [scanF_succ, scanF_succ]
  by_cases he : r.drop (gap false r) = []
  ·rw [he, scanG_end, scanG_end]
   exact ⟨_, rfl, rfl⟩
  ·cases hf : front (r.drop (gap false r)) with
   | error e =>
    rw [scanG_bad he (by omega) hf, scanG_bad he (by omega) hf]
    show Except.error (e, p + d + gap false r) = Except.error (e, p + gap false r + d)
    rw [show p + d + gap false r = p + gap false r + d by omega]
   | ok v =>
    obtain ⟨k, x, j⟩ := v
    have hfl := front_len hf
    rw [List.length_drop] at hfl
    have hl : ((r.drop (gap false r)).drop j).length + 1 ≤ r.length := by rw [List.length_drop, List.length_drop]; omega
    have ih := scan_shift d m ((r.drop (gap false r)).drop j) (p + gap false r + j) (n + 1) (n' + 1) (by omega) (by omega) (by omega)
    rw [scanG_ok he (by omega) hf, scanG_ok he (by omega) hf, show p + d + gap false r + j = p + gap false r + j + d by omega]
    generalize scanF m ((r.drop (gap false r)).drop j) (p + gap false r + j) (n + 1) = R at *
    generalize scanF m ((r.drop (gap false r)).drop j) (p + gap false r + j + d) (n' + 1) = R' at *
    cases R with
    | error e =>
     obtain ⟨c, q⟩ := e
     have ih : R' = .error (c, q + d) := ih
     rw [ih]
     rfl
    | ok ts =>
     obtain ⟨us, ih, h2⟩ := ih
     rw [ih]
     exact ⟨_, rfl, h2.cons _ _ _ _⟩
theorem gap_app : ∀ (b : Bool) (r t : List UInt8), gap b (r ++ 10 :: t) = if gap b r = r.length then r.length + 1 + gap false t else gap b r
 | b, [], t => by
  rw [List.nil_append, gap_cons, if_pos (by decide), if_pos (show gap b [] = ([] : List UInt8).length by cases b <;> rfl), List.length_nil]
  omega
 | b, c :: r, t => by
  have h1 := gap_app false r t
  have h2 := gap_app b r t
  have h3 := gap_app true r t
  have g1 := gap_le false r
  have g2 := gap_le b r
  have g3 := gap_le true r
  rw [List.cons_append, gap_cons, gap_cons, List.length_cons]
  by_cases c1 : c.toNat = 10
  ·rw [if_pos c1, if_pos c1, h1]
   by_cases e : gap false r = r.length
   ·rw [if_pos e, if_pos (by omega)]; omega
   ·rw [if_neg e, if_neg (by omega)]
  ·rw [if_neg c1, if_neg c1]
   by_cases c2 : b = true ∨ c.toNat = 32 ∨ c.toNat = 9 ∨ c.toNat = 13
   ·rw [if_pos c2, if_pos c2, h2]
    by_cases e : gap b r = r.length
    ·rw [if_pos e, if_pos (by omega)]; omega
    ·rw [if_neg e, if_neg (by omega)]
   ·rw [if_neg c2, if_neg c2]
    by_cases c3 : c.toNat = 35
    ·rw [if_pos c3, if_pos c3, h3]
     by_cases e : gap true r = r.length
     ·rw [if_pos e, if_pos (by omega)]; omega
     ·rw [if_neg e, if_neg (by omega)]
    ·rw [if_neg c3, if_neg c3, if_neg (by omega)]
theorem span_app2 {p : UInt8 → Bool} (h10 : p 10 = false) (t : List UInt8) : ∀ r, span p (r ++ 10 :: t) = span p r
 | [] => by rw [List.nil_append, span_cons, h10, if_neg (by decide)]; rfl
 | c :: r => by rw [List.cons_append, span_cons, span_cons, span_app2 h10 t r]
theorem front_app {r : List UInt8} (h : r ≠ []) (t : List UInt8) : front (r ++ 10 :: t) = front r := by
 cases r with
 | nil => exact absurd rfl h
 | cons c r =>
  have s1 := span_app2 (p := namB) (by decide) t (c :: r)
  have s2 := span_app2 (p := digB) (by decide) t (c :: r)
  have s3 := span_app2 (p := patB) (by decide) t r
  have l1 := span_le namB (c :: r)
  have l2 := span_le digB (c :: r)
  have l3 := span_le patB r
  rw [List.cons_append] at s1 s2
  have t1 : (c :: (r ++ 10 :: t)).take (span namB (c :: r)) = (c :: r).take (span namB (c :: r)) := by rw [← List.cons_append, List.take_append_of_le_length l1]
  have t2 : (c :: (r ++ 10 :: t)).take (span digB (c :: r)) = (c :: r).take (span digB (c :: r)) := by rw [← List.cons_append, List.take_append_of_le_length l2]
  have t3 : (r ++ 10 :: t).take (span patB r) = r.take (span patB r) := List.take_append_of_le_length l3
  have t4 : ((r ++ 10 :: t).drop (span patB r)).head? = some 47 ↔ (r.drop (span patB r)).head? = some 47 := by
   rw [List.drop_append_of_le_length l3]
   cases r.drop (span patB r) with
   | nil => simp
   | cons a u => rfl
  have t5 : (c.toNat = 46 ∧ (r ++ 10 :: t).head? = some 46) ↔ (c.toNat = 46 ∧ r.head? = some 46) := by
   cases r with
   | nil => simp
   | cons a u => rfl
  rw [List.cons_append, front_cons, front_cons, s1, s2, s3, t1, t2, t3]
  simp only [t4, t5]
theorem scan_pair (b : List UInt8) : ∀ (m : Nat) (r : List UInt8) (p n : Nat), r.length + b.length + 1 < m → n + r.length < 8192 → match scanF m r p n with
  | .error e => scanF m (r ++ 10 :: b) p n = .error e
  | .ok ts => ∃ gs e, ts = gs ++ [e] ∧ gs.length ≤ r.length ∧ scanF m (r ++ 10 :: b) p n = thenR gs (scanF m b (p + r.length + 1) (n + gs.length))
 | 0, _, _, _, h, _ => absurd h (by omega)
 | m + 1, r, p, n, h, hn => by
  have hg := gap_le false r
  rw [scanF_succ (r := r), scanF_succ (r := r ++ 10 :: b), gap_app]
  by_cases he : gap false r = r.length
  ·rw [if_pos he, he, List.drop_eq_nil_of_le (Nat.le_refl _), scanG_end]
   refine ⟨[], ⟨5, p + r.length, []⟩, rfl, by simp, ?_⟩
   have hd : (r ++ 10 :: b).drop (r.length + 1 + gap false b) = b.drop (gap false b) := by
    rw [show r.length + 1 + gap false b = r.length + (1 + gap false b) by omega, ← List.drop_drop, List.drop_left, show 1 + gap false b = gap false b + 1 by omega, List.drop_succ_cons]
   rw [hd, thenR_nil, scanF_succ (r := b), show p + (r.length + 1 + gap false b) = p + r.length + 1 + gap false b by omega]
   rfl
  ·rw [if_neg he]
   have hne : r.drop (gap false r) ≠ [] := by
    intro e
    have := congrArg List.length e
    rw [List.length_drop, List.length_nil] at this
    omega
   have hd : (r ++ 10 :: b).drop (gap false r) = r.drop (gap false r) ++ 10 :: b := List.drop_append_of_le_length hg
   have hne2 : r.drop (gap false r) ++ 10 :: b ≠ [] := by simp
   rw [hd]
   cases hf : front (r.drop (gap false r)) with
   | error e =>
    rw [scanG_bad hne (by omega) hf]
    show scanG m (r.drop (gap false r) ++ 10 :: b) _ _ = _
    rw [scanG_bad hne2 (by omega) ((front_app hne b).trans hf)]
   | ok v =>
    obtain ⟨k, x, j⟩ := v
    have hfl := front_len hf
    rw [List.length_drop] at hfl
    have hd2 : (r.drop (gap false r) ++ 10 :: b).drop j = (r.drop (gap false r)).drop j ++ 10 :: b := List.drop_append_of_le_length (by rw [List.length_drop]; omega)
    have hlr : ((r.drop (gap false r)).drop j).length = r.length - gap false r - j := by rw [List.length_drop, List.length_drop]
    have ih := scan_pair b m ((r.drop (gap false r)).drop j) (p + gap false r + j) (n + 1) (by omega) (by omega)
    rw [scanG_ok hne (by omega) hf, scanG_ok hne2 (by omega) ((front_app hne b).trans hf), hd2]
    generalize scanF m ((r.drop (gap false r)).drop j) (p + gap false r + j) (n + 1) = R at *
    cases R with
    | error _ =>
     have ih : scanF m ((r.drop (gap false r)).drop j ++ 10 :: b) (p + gap false r + j) (n + 1) = _ := ih
     rw [ih]
     rfl
    | ok ts =>
     obtain ⟨gs, e, h1, h2, h3⟩ := ih
     rw [h3]
     refine ⟨⟨k, p + gap false r, x⟩ :: gs, e, by rw [h1]; rfl, by simp only [List.length_cons]; omega, ?_⟩
     rw [thenR_then, show p + gap false r + j + ((r.drop (gap false r)).drop j).length + 1 = p + r.length + 1 by omega, scan_fuel m (m + 1) b _ _ (by omega) (by omega)]
     show thenR _ _ = thenR _ _
     rw [show n + 1 + gs.length = n + ((⟨k, p + gap false r, x⟩ : Tk) :: gs).length by simp only [List.length_cons]; omega]
     rfl
theorem pair_scan (a b : List UInt8) (ha : a.length ≤ 1500) (hb : b.length ≤ 1500) : match scanT a with
  | .error _ => ∃ e', scanT (a ++ 10 :: b) = .error e'
  | .ok ts => ∃ gs e, ts = gs ++ [e] ∧ match scanT b with
   | .error (c, q) => scanT (a ++ 10 :: b) = .error (c, q + (a.length + 1))
   | .ok us => ∃ vs, scanT (a ++ 10 :: b) = .ok vs ∧ Alike vs (gs ++ us) := by
 have hl : (a ++ 10 :: b).length = a.length + b.length + 1 := by simp; omega
 have h1 : scanT a = scanF (a.length + b.length + 3) a 0 0 := by
  unfold scanT
  rw [if_neg (by omega)]
  exact scan_fuel _ _ _ _ _ (by omega) (by omega)
 have h2 : scanT b = scanF (a.length + b.length + 3) b 0 0 := by
  unfold scanT
  rw [if_neg (by omega)]
  exact scan_fuel _ _ _ _ _ (by omega) (by omega)
 have h3 : scanT (a ++ 10 :: b) = scanF (a.length + b.length + 3) (a ++ 10 :: b) 0 0 := by
  unfold scanT
  rw [if_neg (by omega), hl]
 have hp := scan_pair b (a.length + b.length + 3) a 0 0 (by omega) (by omega)
 rw [h1, h2, h3]
 generalize scanF (a.length + b.length + 3) a 0 0 = R at *
 cases R with
 | error e => exact ⟨e, hp⟩
 | ok ts =>
  obtain ⟨gs, e, k1, k2, k3⟩ := hp
  refine ⟨gs, e, k1, ?_⟩
  have hs := scan_shift (a.length + 1) (a.length + b.length + 3) b 0 0 (0 + gs.length) (by omega) (by omega) (by omega)
  rw [k3, show 0 + a.length + 1 = 0 + (a.length + 1) by omega]
  generalize scanF (a.length + b.length + 3) b 0 0 = R at *
  generalize scanF (a.length + b.length + 3) b (0 + (a.length + 1)) (0 + gs.length) = R' at *
  cases R with
  | error e =>
   obtain ⟨c, q⟩ := e
   have hs : R' = .error (c, q + (a.length + 1)) := hs
   rw [hs]
   rfl
  | ok us =>
   obtain ⟨vs, hs, h4⟩ := hs
   rw [hs]
   exact ⟨gs ++ vs, rfl, (Alike.refl gs).app h4⟩
end Go.Proofs.YtfcccfplmdjndaaGreat
