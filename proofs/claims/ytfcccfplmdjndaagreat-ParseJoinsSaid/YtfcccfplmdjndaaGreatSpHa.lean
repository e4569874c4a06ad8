/- spec: plain mathematics: types, each of which is a part of one other, or has a name. -/
import Derived.Test.YtfcccfplmdjndaaGreatTrA
import Derived.Test.YtfcccfplmdjndaaGreatSpSa
namespace Go.Proofs.YtfcccfplmdjndaaGreat
set_option linter.unusedSimpArgs false
set_option linter.unusedVariables false

def subF (pt : Nat → List Int) : Nat → Nat → List Nat
 | 0, _ => []
 | k + 1, x => x :: (pt x).flatMap (fun p => subF pt k p.toNat)
def sub (pt : Nat → List Int) (x : Nat) : List Nat := subF pt (x + 1) x
structure Val (n : Nat) (pt : Nat → List Int) (rs : List Int) : Prop where
 lt : ∀ i, i < n → ∀ p ∈ pt i, 0 ≤ p ∧ p.toNat < i
 nd : ((List.range n).flatMap pt ++ rs).Nodup
 inb : ∀ p ∈ rs, 0 ≤ p ∧ p.toNat < n
 all : ∀ i, i < n → (i : Int) ∈ (List.range n).flatMap pt ++ rs

section
variable {n : Nat} {pt : Nat → List Int} {rs : List Int}
theorem flatMap_congr' {α β : Type} {l : List α} {f g : α → List β} (h : ∀ a ∈ l, f a = g a) : l.flatMap f = l.flatMap g := by
 induction l with
 | nil => rfl
 | cons a l ih => rw [List.flatMap_cons, List.flatMap_cons, h a List.mem_cons_self, ih (fun b hb => h b (List.mem_cons_of_mem _ hb))]
theorem subF_eq (H : Val n pt rs) : ∀ (x k : Nat), x < n → x < k → subF pt k x = sub pt x := by
 intro x
 induction x using Nat.strongRecOn with
 | _ x ih =>
  intro k hx hk
  obtain ⟨k, rfl⟩ : ∃ j, k = j + 1 := ⟨k - 1, by omega⟩
  unfold sub
  show x :: _ = x :: _
  congr 1
  refine flatMap_congr' (fun p hp => ?_)
  have := H.lt x hx p hp
  rw [ih p.toNat this.2 k (by omega) (by omega), ih p.toNat this.2 x (by omega) (by omega)]
theorem sub_eq (H : Val n pt rs) (x : Nat) (hx : x < n) : sub pt x = x :: (pt x).flatMap (fun p => sub pt p.toNat) := by
 show x :: _ = x :: _
 congr 1
 refine flatMap_congr' (fun p hp => ?_)
 have := H.lt x hx p hp
 exact subF_eq H p.toNat x (by omega) (by omega)
theorem mem_sub (H : Val n pt rs) {x z : Nat} (hx : x < n) : z ∈ sub pt x ↔ z = x ∨ ∃ p ∈ pt x, z ∈ sub pt p.toNat := by
 rw [sub_eq H x hx, List.mem_cons, List.mem_flatMap]
theorem sub_self (H : Val n pt rs) {x : Nat} (hx : x < n) : x ∈ sub pt x := (mem_sub H hx).2 (.inl rfl)
theorem sub_le (H : Val n pt rs) : ∀ (x z : Nat), x < n → z ∈ sub pt x → z ≤ x := by
 intro x
 induction x using Nat.strongRecOn with
 | _ x ih =>
  intro z hx hz
  rcases (mem_sub H hx).1 hz with rfl | ⟨p, hp, hz⟩
  ·omega
  ·have := H.lt x hx p hp
   have := ih p.toNat this.2 z (by omega) hz
   omega
theorem sub_up (H : Val n pt rs) : ∀ (x z : Nat), x < n → z ∈ sub pt x → z = x ∨ ∃ y ∈ sub pt x, (z : Int) ∈ pt y := by
 intro x
 induction x using Nat.strongRecOn with
 | _ x ih =>
  intro z hx hz
  rcases (mem_sub H hx).1 hz with rfl | ⟨p, hp, hz⟩
  ·exact .inl rfl
  ·have hl := H.lt x hx p hp
   right
   rcases ih p.toNat hl.2 z (by omega) hz with rfl | ⟨y, hy, hz⟩
   ·exact ⟨x, sub_self H hx, by rw [Int.toNat_of_nonneg hl.1]; exact hp⟩
   ·exact ⟨y, (mem_sub H hx).2 (.inr ⟨p, hp, hy⟩), hz⟩
theorem val_parts (H : Val n pt rs) : ((List.range n).flatMap pt).Nodup := (List.nodup_append.1 H.nd).1
theorem pt_nodup (H : Val n pt rs) {x : Nat} (hx : x < n) : (pt x).Nodup := by
 have h := val_parts H
 unfold List.Nodup at h
 rw [List.pairwise_flatMap] at h
 exact h.1 x (List.mem_range.2 hx)
theorem pt_uniq (H : Val n pt rs) {x y : Nat} (hx : x < n) (hy : y < n) {p : Int} (h1 : p ∈ pt x) (h2 : p ∈ pt y) : x = y := by
 have h := val_parts H
 unfold List.Nodup at h
 rw [List.pairwise_flatMap] at h
 have h3 := List.pairwise_iff_getElem.1 h.2
 rcases Nat.lt_trichotomy x y with e | e | e
 ·exact absurd rfl (h3 x y (by simpa using hx) (by simpa using hy) e p (by simpa using h1) p (by simpa using h2))
 ·exact e
 ·exact absurd rfl (h3 y x (by simpa using hy) (by simpa using hx) e p (by simpa using h2) p (by simpa using h1))
theorem sub_meet (H : Val n pt rs) {x y : Nat} (hx : x < n) (hy : y < n) : ∀ (k z : Nat), n - z ≤ k → z ∈ sub pt x → z ∈ sub pt y → x ∈ sub pt y ∨ y ∈ sub pt x := by
 intro k
 induction k with
 | zero =>
  intro z hk h1 h2
  have := sub_le H x z hx h1
  omega
 | succ k ih =>
  intro z hk h1 h2
  rcases sub_up H x z hx h1 with rfl | ⟨a, ha, ha2⟩
  ·exact .inl h2
  ·rcases sub_up H y z hy h2 with rfl | ⟨b, hb, hb2⟩
   ·exact .inr h1
   ·have la := sub_le H x a hx ha
    have lb := sub_le H y b hy hb
    have e := pt_uniq H (by omega) (by omega) ha2 hb2
    subst e
    have := (H.lt a (by omega) _ ha2).2
    exact ih a (by omega) ha hb
theorem sub_sibs (H : Val n pt rs) {x : Nat} (hx : x < n) {p q : Int} (hp : p ∈ pt x) (hq : q ∈ pt x) (hne : p ≠ q) (z : Nat) (h1 : z ∈ sub pt p.toNat) (h2 : z ∈ sub pt q.toNat) : False := by
 have lp := H.lt x hx p hp
 have lq := H.lt x hx q hq
 have key : ∀ p q : Int, p ∈ pt x → q ∈ pt x → p ≠ q → 0 ≤ p ∧ p.toNat < x → 0 ≤ q ∧ q.toNat < x → p.toNat ∈ sub pt q.toNat → False := by
  intro p q hp hq hne lp lq h
  rcases sub_up H q.toNat p.toNat (by omega) h with e | ⟨y, hy, hy2⟩
  ·omega
  ·rw [Int.toNat_of_nonneg lp.1] at hy2
   have ly := sub_le H _ y (by omega) hy
   have := pt_uniq H hx (by omega) hp hy2
   omega
 rcases sub_meet H (x := p.toNat) (y := q.toNat) (by omega) (by omega) (n - z) z (Nat.le_refl _) h1 h2 with h | h
 ·exact key p q hp hq hne lp lq h
 ·exact key q p hq hp (Ne.symm hne) lq lp h
theorem sub_roots (H : Val n pt rs) {p q : Int} (hp : p ∈ rs) (hq : q ∈ rs) (hne : p ≠ q) (z : Nat) (h1 : z ∈ sub pt p.toNat) (h2 : z ∈ sub pt q.toNat) : False := by
 have key : ∀ p q : Int, p ∈ rs → q ∈ rs → p ≠ q → p.toNat ∈ sub pt q.toNat → False := by
  intro p q hp hq hne h
  have lp := H.inb p hp
  have lq := H.inb q hq
  rcases sub_up H q.toNat p.toNat lq.2 h with e | ⟨y, hy, hy2⟩
  ·omega
  ·rw [Int.toNat_of_nonneg lp.1] at hy2
   have ly := sub_le H _ y (by omega) hy
   exact (List.nodup_append.1 H.nd).2.2 p (List.mem_flatMap.2 ⟨y, List.mem_range.2 (by omega), hy2⟩) p hp rfl
 have lp := H.inb p hp
 have lq := H.inb q hq
 rcases sub_meet H lp.2 lq.2 (n - z) z (Nat.le_refl _) h1 h2 with h | h
 ·exact key p q hp hq hne h
 ·exact key q p hq hp (Ne.symm hne) h
end
end Go.Proofs.YtfcccfplmdjndaaGreat

/- spec: what Check says of a specification that may be, as mathematics. -/
namespace Go.Proofs.YtfcccfplmdjndaaGreat
set_option linter.unusedSimpArgs false
set_option linter.unusedVariables false
open Go.RowKit

def ptT (ts : List NT) (i : Nat) : List Int := (ts[i]?.map NT.parts).getD []
theorem ptT_at {ts : List NT} {i : Nat} (h : i < ts.length) : ptT ts i = ts[i].parts := by unfold ptT; rw [List.getElem?_eq_getElem h]; rfl
theorem ptT_all (ts : List NT) : (List.range ts.length).flatMap (ptT ts) = ts.flatMap NT.parts := by
 rw [List.flatMap_def, List.flatMap_def]
 congr 1
 apply List.ext_getElem
 ·simp
 ·intro i h1 h2
  have : i < ts.length := by simpa using h2
  simp [ptT_at this]
def Marks (l : List Bool) (S : List Int) : Prop := ∀ i, i < l.length → l[i]? = some (decide ((i : Int) ∈ S))
theorem marks_set {l : List Bool} {S : List Int} (h : Marks l S) {p : Int} (hp : 0 ≤ p) : Marks (l.set p.toNat true) (S ++ [p]) := by
 intro i hi
 rw [List.length_set] at hi
 by_cases e : p.toNat = i
 ·subst e
  rw [List.getElem?_set_self hi]
  simp; omega
 ·rw [List.getElem?_set_ne e, h i hi]
  congr 1
  rw [Bool.eq_iff_iff]
  simp
  omega
theorem holdF_ok {l l1 : List Bool} {m : Nat} (hm : m ≤ l.length) {p : Int} (h : holdF (l.take m) p = .ok l1) : 0 ≤ p ∧ p.toNat < m ∧ l[p.toNat]? = some false := by
 unfold holdF at h
 split at h
 ·cases h
 ·rename_i h1
  rw [List.length_take, Nat.min_eq_left hm] at h1
  have hp : p.toNat < m := by omega
  split at h
  ·cases h
  ·rename_i h2
   refine ⟨by omega, hp, ?_⟩
   rw [List.getD_eq_getElem?_getD, List.getElem?_take_of_lt hp, List.getElem?_eq_getElem (by omega)] at h2
   rw [List.getElem?_eq_getElem (by omega)]
   simpa using h2
theorem hsF_ok {m : Nat} : ∀ (ps : List Int) (l l' : List Bool) (S : List Int), m ≤ l.length → Marks l S → S.Nodup → hsF m l ps = .ok l' → (∀ p ∈ ps, 0 ≤ p ∧ p.toNat < m) ∧ (S ++ ps).Nodup ∧ Marks l' (S ++ ps)
 | [], l, l', S, hm, hM, hn, h => by
  injection h with h
  subst h
  rw [List.append_nil]
  exact ⟨fun p hp => absurd hp (by simp), hn, hM⟩
 | p :: ps, l, l', S, hm, hM, hn, h => by
  rw [hsF_cons] at h
  cases hq : holdF (l.take m) p with
  | error c => rw [hq] at h; cases h
  | ok l1 =>
   rw [hq] at h
   obtain ⟨h1, h2, h3⟩ := holdF_ok hm hq
   rw [hM _ (by omega)] at h3
   have h4 : p ∉ S := by
    injection h3 with h3
    rw [decide_eq_false_iff_not, Int.toNat_of_nonneg h1] at h3
    exact h3
   have hn2 : (S ++ [p]).Nodup := by
    rw [List.nodup_append]
    refine ⟨hn, by simp, fun a ha b hb => ?_⟩
    rintro rfl
    rw [List.mem_singleton] at hb
    exact h4 (hb ▸ ha)
   have ih := hsF_ok ps (l.set p.toNat true) l' (S ++ [p]) (by rw [List.length_set]; exact hm) (marks_set hM h1) hn2 h
   rw [List.append_assoc, List.singleton_append] at ih
   refine ⟨fun q hq => ?_, ih.2.1, ih.2.2⟩
   rcases List.mem_cons.1 hq with rfl | hq
   ·exact ⟨h1, h2⟩
   ·exact ih.1 q hq
theorem ckN_ok : ∀ (vs : List NV) (j : Nat) (l l' : List Bool) (S : List Int), j + vs.length ≤ l.length → Marks l S → S.Nodup → ckN j l vs = .ok l' → l'.length = l.length ∧ (∀ i (h : i < vs.length), ckV vs[i] = 0 ∧ ∀ p ∈ vs[i].t.parts, 0 ≤ p ∧ p.toNat < j + i) ∧ (S ++ (vs.map NV.t).flatMap NT.parts).Nodup ∧ Marks l' (S ++ (vs.map NV.t).flatMap NT.parts)
 | [], j, l, l', S, hl, hM, hn, h => by
  injection h with h
  subst h
  refine ⟨rfl, fun i h => absurd h (by simp), ?_, ?_⟩ <;> simpa
 | v :: vs, j, l, l', S, hl, hM, hn, h => by
  rw [ckN_at] at h
  split at h
  ·cases h
  ·rename_i hc
   cases hq : hsF j l v.t.parts with
   | error c => rw [hq] at h; cases h
   | ok l1 =>
    rw [hq] at h
    rw [List.length_cons] at hl
    obtain ⟨h1, h2, h3⟩ := hsF_ok _ _ _ S (by omega) hM hn hq
    have h4 := hsF_len hq
    obtain ⟨i0, i1, i2, i3⟩ := ckN_ok vs (j + 1) l1 l' _ (by omega) h3 h2 h
    rw [List.append_assoc] at i2 i3
    refine ⟨by omega, fun i hi => ?_, by simpa using i2, by simpa using i3⟩
    cases i with
    | zero => exact ⟨by simpa using hc, h1⟩
    | succ i =>
     have := i1 i (by simpa using hi)
     exact ⟨this.1, fun p hp => by have := this.2 p hp; omega⟩
theorem ckN_nz : ∀ (vs : List NV) (j : Nat) (l : List Bool), ckN j l vs = .error 0 → False
 | [], j, l, h => by cases h
 | v :: vs, j, l, h => by
  rw [ckN_at] at h
  split at h
  ·rename_i hc
   injection h with h
   exact hc h
  ·cases hq : hsF j l v.t.parts with
   | error c =>
    rw [hq] at h
    injection h with h
    have := hsF_c hq
    omega
   | ok l1 => rw [hq] at h; exact ckN_nz vs (j + 1) l1 h
theorem ckS_zero {vs : List NV} {ds : List DT} (h : ckS vs ds = 0) : Val vs.length (ptT (vs.map NV.t)) (ds.map DT.ty) ∧ (∀ v ∈ vs, ckV v = 0) ∧ vs.length ≤ 2048 ∧ 0 < ds.length ∧ ds.length ≤ 64 := by
 unfold ckS at h
 split at h
 ·cases h
 ·rename_i hsz
  split at h
  ·rename_i c hq
   subst h
   exfalso
   exact ckN_nz _ _ _ hq
  ·rename_i l hq
   obtain ⟨i0, i1, i2, i3⟩ := ckN_ok vs 0 (List.replicate vs.length false) l [] (by simp) (fun i hi => by rw [List.length_replicate] at hi; rw [List.getElem?_replicate_of_lt hi]; simp) (by simp) hq
   rw [List.length_replicate] at i0
   rw [List.nil_append] at i2 i3
   split at h
   ·rename_i c hq2
    have := hsF_c hq2
    omega
   ·rename_i l' hq2
    obtain ⟨k1, k2, k3⟩ := hsF_ok _ _ _ _ (by omega) i3 i2 hq2
    have k4 := hsF_len hq2
    have hall : l'.any (fun b => !b) = false := by
     cases ha : l'.any (fun b => !b) with
     | false => rfl
     | true => rw [ha] at h; cases h
    have hpt : (List.range vs.length).flatMap (ptT (vs.map NV.t)) = (vs.map NV.t).flatMap NT.parts := by
     have := ptT_all (vs.map NV.t)
     rwa [List.length_map] at this
    refine ⟨⟨fun i hi p hp => ?_, by rw [hpt]; exact k2, fun p hp => k1 p hp, fun i hi => ?_⟩, fun v hv => ?_, by omega, by omega, by omega⟩
    ·rw [ptT_at (by rw [List.length_map]; exact hi), List.getElem_map] at hp
     have := (i1 i hi).2 p hp
     omega
    ·rw [hpt]
     have h1 := k3 i (by omega)
     rw [List.any_eq_false] at hall
     have h2 := hall l'[i] (List.getElem_mem (by omega))
     rw [List.getElem?_eq_getElem (by omega)] at h1
     injection h1 with h1
     rw [h1] at h2
     exact of_decide_eq_true (by simpa only [Bool.not_eq_true, Bool.not_eq_false'] using h2)
    ·obtain ⟨i, hi, rfl⟩ := List.getElem_of_mem hv
     exact (i1 i hi).1
end Go.Proofs.YtfcccfplmdjndaaGreat

/- spec: has; slices.EqualFunc over two lists of the same numbers, by a function value that finds each alike. -/
namespace Go.Proofs.YtfcccfplmdjndaaGreat
set_option linter.unusedSimpArgs false
set_option linter.unusedVariables false
open Go.RowKit

set_option maxRecDepth 100000 in
set_option maxHeartbeats 1000000 in
theorem has_any (N D : SV) (at_ : Int) (w : World) : Calls Tryz.prog 33 #[.agg #[.slice N.A N.n N.c, .slice D.A D.n D.c], .int .i64 at_] w fun e w' => e = .returned (.bool (decide (0 ≤ at_ ∧ at_ < N.n))) ∧ Below w.heap.size w w' := by
 obtain ⟨NA, Nn, Nc⟩ := N
 obtain ⟨DA, Dn, Dc⟩ := D
 obtain ⟨hbx, hb0⟩ := spec_box w (.slice NA Nn Nc) (.slice DA Dn Dc)
 have HB := hid hbx
 have x0 := Blk.at hb0 0
 simp only [List.getElem?_cons_zero] at x0
 clear hbx hb0
 simp only
 by_cases h0 : 0 ≤ at_
 ·have hd : decide (0 ≤ at_ ∧ at_ < (Nn : Int)) = decide (at_ < (Nn : Int)) := by rw [Bool.eq_iff_iff]; simp [h0]
  rw [hd]
  clear hd
  have h0d : decide (0 ≤ at_) = true := by simpa using h0
  go_enter Tryz.func33, Tryz.ntmps33
  go_wp2
  go_ret
  exact ⟨rfl, HB.out⟩
 ·have hd : decide (0 ≤ at_ ∧ at_ < (Nn : Int)) = false := by simp [h0]
  rw [hd]
  clear hd
  have h0d : decide (0 ≤ at_) = false := by simpa using h0
  go_enter Tryz.func33, Tryz.ntmps33
  go_wp2
  go_ret
  exact ⟨rfl, HB.out⟩
structure Hands2 (F : Nat) (caps : Array Value) (ps : List Int) (Inv : Nat → World → Prop) : Prop where
 ent : ∀ args w, (callFunc F args).run Tryz.prog w = .ok (.enter F args) w
 call : ∀ i (h : i < ps.length) W, Inv i W → Calls Tryz.prog F (caps ++ #[.int .i64 ps[i], .int .i64 ps[i]]) W fun e W' => e = .returned (.bool true) ∧ Inv (i + 1) W'
set_option maxRecDepth 100000 in
set_option maxHeartbeats 2000000 in
theorem eqI_any {P : Nat → Prop} {F : Nat} {cap : Value} (s1 s2 : SV) (xs : List Int) (w : World) (Inv : Nat → World → Prop) (H : Hands2 F #[cap] xs Inv) (hI : Inv 0 w)
  (h1 : ∀ i W, Inv i W → Rw W P s1 (intC xs)) (h2 : ∀ i W, Inv i W → Rw W P s2 (intC xs)) (n1 : s1.n = xs.length) (n2 : s2.n = xs.length) (hl : xs.length ≤ 1048576) :
  Calls Tryz.prog 61 #[s1.val, s2.val, .func (.func F) #[cap] #[]] w fun e w' => e = .returned (.bool true) ∧ Inv xs.length w' := by
 obtain ⟨A, n, c⟩ := s1
 obtain ⟨A2, m, c2⟩ := s2
 unfold SV.val
 simp only at n1 n2 ⊢
 subst n2
 obtain rfl : n = xs.length := n1
 obtain ⟨n, hn⟩ : ∃ n, n = xs.length := ⟨_, rfl⟩
 rw [← hn] at hl h1 h2 ⊢
 have hent := H.ent
 have HI := hid hI
 have HN := hid hn
 have HC := hid H.call
 have HA := hid h1
 have HA2 := hid h2
 clear hI hn H h1 h2
 go_enter Tryz.func61, Tryz.ntmps61
 go_wp2_with fail
 go_loopw [17] (fun i wr => ∃ q : Nat, q ≤ n ∧ i = .int .i64 q ∧ Hid (Inv q wr)) (fun i _ => n - (intOf i).toNat)
 case atStart => exact ⟨0, by omega, rfl, HI⟩
 case round =>
  clear HI
  obtain ⟨q, hq, rfl, HI⟩ := hrel
  by_cases hlt : q < n
  ·have hlt' : (q : Int) < (n : Int) := by omega
   have hq1 : q < xs.length := by rw [← HN.out]; exact hlt
   obtain ⟨b1, o1, hA, _, _, hc1⟩ := (HA.out q wr HI.out).at (by rw [intC_len]; omega)
   obtain ⟨b2, o2, hA2, _, _, hc2⟩ := (HA2.out q wr HI.out).at (by rw [intC_len]; omega)
   have hA' : A = some ⟨b1, o1, none⟩ := hA
   have hA2' : A2 = some ⟨b2, o2, none⟩ := hA2
   have hx : (intC xs)[q]? = some (.int .i64 xs[q]) := by simp [intC, List.getElem?_eq_getElem hq1]
   have e0 := hc1 q (by rw [intC_len]; exact hq1)
   have d0 := hc2 q (by rw [intC_len]; exact hq1)
   rw [hx] at e0 d0
   have HK := hid (HC.out q hq1 wr HI.out)
   generalize xs[q] = p at *
   have HK2 := hid (show Calls Tryz.prog F #[cap, .int .i64 p, .int .i64 p] wr _ from HK.out)
   clear hA hA2 hc1 hc2 hx HI HK hq1
   rw [hA', hA2']
   go_wp2_with (refine HK2.out.mono ?_; rintro e w6 ⟨rfl, hi6⟩; have HI6 := hid hi6; clear hi6)
   all_goals exact ⟨⟨q + 1, by omega, by go_num, HI6⟩, by simp [intOf]; omega⟩
  ·obtain rfl : q = n := by omega
   go_wp2
   go_ret
   exact ⟨rfl, HI.out⟩
end Go.Proofs.YtfcccfplmdjndaaGreat
