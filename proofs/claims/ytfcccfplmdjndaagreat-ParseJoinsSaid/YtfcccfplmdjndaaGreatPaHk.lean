/- parse: a Builder's Spec, wherever it lies. -/
import Derived.Test.YtfcccfplmdjndaaGreatPaW
import Derived.Test.YtfcccfplmdjndaaGreatSpX
import Derived.Test.YtfcccfplmdjndaaGreatPaFw
namespace Go.Proofs.YtfcccfplmdjndaaGreat
set_option linter.unusedSimpArgs false
set_option linter.unusedVariables false
open Go.RowKit

theorem BO.ok {w : World} {O : Nat → Prop} {T : TypeId} {cs : List Value} {pb po : Nat} {vs : List NV} {ds : List DT} {nv dv : Value} (h : BO w O T cs pb po vs ds nv dv) : ∃ sN sD : SV, nv = sN.val ∧ dv = sD.val ∧ SpecOk w (fun _ => True) ⟨vs, ds, sN, sD⟩ := by
 obtain ⟨N, hN, hn, hrn⟩ := own_rw h.rn
 obtain ⟨D, hD, hd, hrd⟩ := own_rw h.rd
 refine ⟨N, D, hN, hD, hn, hd, hrn.mono (fun _ _ _ => rfl) (Nat.le_refl _) (fun _ _ _ => trivial), hrd.mono (fun _ _ _ => rfl) (Nat.le_refl _) (fun _ _ _ => trivial), fun v hv => ?_⟩
 exact (h.each v hv).ok.mono (fun _ _ _ => rfl) (Nat.le_refl _) (fun _ _ _ => trivial)
set_option maxRecDepth 100000 in
set_option maxHeartbeats 1000000 in
theorem Spec_any_ {w : World} {O : Nat → Prop} {T : TypeId} {cs : List Value} {pb po : Nat} {vs : List NV} {ds : List DT} {nv dv : Value} (h : BO w O T cs pb po vs ds nv dv) (hf : ∀ v ∈ vs, Fits v) (hn : vs.length ≤ 2048) (hd : ds.length ≤ 64) :
  Calls Tryz.prog 17 #[.pointer (some ⟨pb, po, none⟩)] w fun e w' => Below w.heap.size w w' ∧ ((ckS vs ds ≠ 0 ∧ e = .returned (.tuple #[.agg #[.slice none 0 0, .slice none 0 0], .int .i64 (ckS vs ds : Nat)])) ∨ (ckS vs ds = 0 ∧ ∃ s' : SpV, e = .returned (.tuple #[s'.val, .int .i64 0]) ∧ s'.ds = ds ∧ s'.ts = vs.map NV.t ∧ SpecOwn w' w.heap.size s')) := by
 obtain ⟨⟨NA, Nn, Nc⟩, ⟨DA, Dn, Dc⟩, rfl, rfl, hok⟩ := h.ok
 have x0 := h.at0
 have x1 := h.at1
 have HO := hid h
 have HK := hid hok
 have HCk := hid (fun W (hb : Below w.heap.size w W) => Check_any ⟨vs, ds, ⟨NA, Nn, Nc⟩, ⟨DA, Dn, Dc⟩⟩ W (hok.keep hb) hf)
 have HCl := hid (fun W (hb : Below w.heap.size w W) => Clone_any ⟨vs, ds, ⟨NA, Nn, Nc⟩, ⟨DA, Dn, Dc⟩⟩ W (hok.keep hb) hf (by have := hok.nn; simp only at this ⊢; omega) (by have := hok.dn; simp only at this ⊢; omega))
 unfold SpV.val at HCk HCl
 unfold SV.val at x0 x1
 have hpb : pb < w.heap.size := h.bo.lt
 obtain ⟨q, hq⟩ : ∃ q, q = ckS vs ds := ⟨_, rfl⟩
 simp only [SpV.ds, SpV.vs] at HCk
 rw [← hq] at HCk ⊢
 have hal := (Below.refl w.heap.size w).alloc (Nat.le_refl _) (.cells #[.slice none 0 0, .slice none 0 0] 32)
 have z0 := (World.cell?_of_block (w := w) (a := ⟨pb, po, none⟩) (hal.block pb hpb)).trans x0
 have z1 := (World.cell?_of_block (w := w) (a := ⟨pb, po + 1, none⟩) (hal.block pb hpb)).trans x1
 have HB0 := hid hal
 have HX := hid (And.intro x0 (And.intro x1 hpb))
 have HR0 := hid (Blk.fresh w 32 [.slice none 0 0, .slice none 0 0])
 clear h hok hf x0 x1 hal hpb HO HK hq
 by_cases h0 : q = 0
 ·subst h0
  go_enter Tryz.func17, Tryz.ntmps17
  go_wp2_with (first
   | (go_at_call 12; (with_reducible refine (HCk.out _ HB0.out).mono ?_); rintro e w3 ⟨rfl, hb3⟩; have HB3 := hid (HB0.out.trans (hb3.mono HB0.out.size)); have HR3 := hid (HR0.out.keep hb3); clear hb3 HB0 HR0 z0 z1 HCk; have y0 := (World.cell?_of_block (w := w) (a := ⟨pb, po, none⟩) (HB3.out.block pb HX.out.2.2)).trans HX.out.1; have y1 := (World.cell?_of_block (w := w) (a := ⟨pb, po + 1, none⟩) (HB3.out.block pb HX.out.2.2)).trans HX.out.2.1)
   | (go_at_call 36; (with_reducible refine (HCl.out _ HB3.out).mono ?_); rintro e w4 ⟨⟨vs', ds', ⟨A2, n2, c2⟩, ⟨D2, m2, d2⟩⟩, rfl, hc1, hc2, hb4, ho4⟩; have HB4 := hid (And.intro (HB3.out.trans (hb4.mono HB3.out.size)) (And.intro hc1 (And.intro hc2 (And.intro ho4 HB3.out.size)))); have HR4 := hid (HR3.out.keep hb4); have p0 := Blk.at HR4.out 0; have p1 := Blk.at HR4.out 1; have p2 := Blk.free HR4.out 0; have p3 := Blk.free HR4.out 1; simp only [List.getElem?_cons_zero, List.getElem?_cons_succ] at p0 p1; clear hc1 hc2 hb4 ho4 HB3 HR3 HCl))
  refine bodyPost_ret (v := .tuple #[.agg #[.slice A2 n2 c2, .slice D2 m2 d2], .int .i64 0]) (results_row_tmp (P := Tryz.prog) (fn := Tryz.f17) rfl _ _ w.heap.size 32 #[.slice A2 n2 c2, .slice D2 m2 d2] (0, 0) _ rfl ((HR4.out.put 0 (.slice A2 n2 c2)).put 1 (.slice D2 m2 d2)) Tryz.underlying32 rfl (by kernel_rfl)) rfl ?_
  obtain ⟨hb4, h1, h2, h4, h5⟩ := HB4.out
  refine ⟨below_set (below_set hb4 _ _ (Nat.le_refl _) _) _ _ (Nat.le_refl _) _, .inr ⟨trivial, _, rfl, h1, h2, ?_⟩⟩
  exact ((h4.set _ _ (by omega) _).set _ _ (by omega) _).base (by omega)
 ·have h0' : ¬ (q : Int) = 0 := by omega
  have h0b : ((q : Int) == 0) = false := by simpa using h0'
  go_enter Tryz.func17, Tryz.ntmps17
  go_wp2_with (go_at_call 12; (with_reducible refine (HCk.out _ HB0.out).mono ?_); rintro e w3 ⟨rfl, hb3⟩; have HB3 := hid (HB0.out.trans (hb3.mono HB0.out.size)); have HR3 := hid (HR0.out.keep hb3); have p0 := Blk.at HR3.out 0; have p1 := Blk.at HR3.out 1; have p2 := Blk.free HR3.out 0; have p3 := Blk.free HR3.out 1; simp only [List.getElem?_cons_zero, List.getElem?_cons_succ] at p0 p1; clear hb3 HB0 HR0 z0 z1 HCk)
  refine bodyPost_ret (v := .tuple #[.agg #[.slice none 0 0, .slice none 0 0], .int .i64 q]) (results_row_tmp (P := Tryz.prog) (fn := Tryz.f17) rfl _ _ w.heap.size 32 #[.slice none 0 0, .slice none 0 0] (0, 0) _ rfl ((HR3.out.put 0 (.slice none 0 0)).put 1 (.slice none 0 0)) Tryz.underlying32 rfl (by kernel_rfl)) rfl ?_
  exact ⟨below_set (below_set HB3.out _ _ (Nat.le_refl _) _) _ _ (Nat.le_refl _) _, .inl ⟨h0, rfl⟩⟩
end Go.Proofs.YtfcccfplmdjndaaGreat

/- parse: types that nothing holds yet, like a stack; what is built so passes Check. -/
namespace Go.Proofs.YtfcccfplmdjndaaGreat
set_option linter.unusedSimpArgs false
set_option linter.unusedVariables false

def MayT (t : NT) : Prop := ∀ x : NV, x.t = t → x.K.n = t.ks.length → x.L.n = t.ls.length → x.F.n = t.fs.length → x.C.n = t.cs.length → ckV x = 0
def natI (P : List Nat) : List Int := P.map Int.ofNat
inductive Hold : List NT → List Nat → Prop
 | nil : Hold [] []
 | snoc {ns : List NT} {U P : List Nat} {n : NT} : Hold ns (U ++ P) → MayT n → n.parts = natI P → Hold (ns ++ [n]) (U ++ [ns.length])
theorem Hold.fits {ns : List NT} {U : List Nat} (h : Hold ns U) : U.Nodup ∧ ∀ u ∈ U, u < ns.length := by
 induction h with
 | nil => exact ⟨List.nodup_nil, fun u hu => (by cases hu)⟩
 | @snoc ns U P n h hm hp ih =>
  obtain ⟨h1, h2⟩ := ih
  have hU : U.Nodup := (List.nodup_append.1 h1).1
  refine ⟨List.nodup_append.2 ⟨hU, by simp, fun a ha b hb => ?_⟩, fun u hu => ?_⟩
  ·have := h2 a (List.mem_append_left _ ha)
   have : b = ns.length := by simpa using hb
   omega
  ·rw [List.length_append, List.length_singleton]
   rcases List.mem_append.1 hu with hu | hu
   ·have := h2 u (List.mem_append_left _ hu); omega
   ·have : u = ns.length := by simpa using hu
    omega
theorem hs_marks {m : Nat} : ∀ (P : List Nat) (l : List Bool), P.Nodup → (∀ p ∈ P, p < m ∧ l[p]? = some false) → m ≤ l.length → ∃ l', hsF m l (natI P) = .ok l' ∧ l'.length = l.length ∧ (∀ j, j ∉ P → l'[j]? = l[j]?) ∧ ∀ j ∈ P, l'[j]? = some true
 | [], l, _, _, _ => ⟨l, rfl, rfl, fun _ _ => rfl, fun j hj => (by cases hj)⟩
 | p :: P, l, hn, hp, hm => by
  obtain ⟨hpm, hpf⟩ := hp p (by simp)
  obtain ⟨hn1, hn2⟩ := List.nodup_cons.1 hn
  have hh : ∃ l2, holdF (l.take m) (p : Int) = .ok l2 := by
   unfold holdF
   rw [if_neg (by rw [List.length_take]; omega), if_neg (by
    rw [List.getD_eq_getElem?_getD, Int.toNat_natCast, List.getElem?_take, if_pos hpm, hpf]
    decide)]
   exact ⟨_, rfl⟩
  obtain ⟨l2, hh⟩ := hh
  obtain ⟨l', e, hl, h1, h2⟩ := hs_marks P (l.set p true) hn2 (fun q hq => by
   have hne : p ≠ q := fun e => hn1 (e ▸ hq)
   refine ⟨(hp q (List.mem_cons_of_mem _ hq)).1, ?_⟩
   rw [List.getElem?_set_ne hne]
   exact (hp q (List.mem_cons_of_mem _ hq)).2) (by rw [List.length_set]; exact hm)
  refine ⟨l', ?_, hl.trans (by simp), fun j hj => ?_, fun j hj => ?_⟩
  ·show (match holdF (l.take m) (p : Int) with | Except.error c => Except.error c | Except.ok _ => hsF m (l.set (p : Int).toNat true) (natI P)) = _
   rw [hh]
   exact e
  ·have hjp : p ≠ j := fun e => hj (by simp [e])
   rw [h1 j (fun h => hj (List.mem_cons_of_mem _ h)), List.getElem?_set_ne hjp]
  ·rcases List.mem_cons.1 hj with rfl | hj
   ·rw [h1 j hn1, List.getElem?_set_self (by omega)]
   ·exact h2 j hj
theorem ckN_snoc9 : ∀ (vs : List NV) (i : Nat) (l : List Bool) (v : NV), ckN i l (vs ++ [v]) = match ckN i l vs with
  | .error c => .error c
  | .ok l' => if ckV v ≠ 0 then .error (ckV v) else hsF (i + vs.length) l' v.t.parts
 | [], i, l, v => by
  show (if ckV v ≠ 0 then Except.error (ckV v) else match hsF i l v.t.parts with | .error c => .error c | .ok l' => .ok l') = (if ckV v ≠ 0 then Except.error (ckV v) else hsF (i + 0) l v.t.parts)
  rw [Nat.add_zero]
  split
  ·rfl
  ·cases hsF i l v.t.parts <;> rfl
 | x :: vs, i, l, v => by
  show (if ckV x ≠ 0 then Except.error (ckV x) else match hsF i l x.t.parts with | .error c => .error c | .ok l' => ckN (i + 1) l' (vs ++ [v])) = (match (if ckV x ≠ 0 then Except.error (ckV x) else match hsF i l x.t.parts with | .error c => .error c | .ok l' => ckN (i + 1) l' vs) with
   | .error c => .error c
   | .ok l' => if ckV v ≠ 0 then .error (ckV v) else hsF (i + (vs.length + 1)) l' v.t.parts)
  split
  ·rfl
  ·cases hsF i l x.t.parts with
   | error c => rfl
   | ok l1 =>
    simp only
    rw [ckN_snoc9 vs (i + 1) l1 v, show i + 1 + vs.length = i + (vs.length + 1) by omega]
theorem Hold.ck {ns : List NT} {U : List Nat} (h : Hold ns U) : ∀ (N : Nat) (vs : List NV), ns.length ≤ N → vs.map NV.t = ns → (∀ v ∈ vs, v.K.n = v.t.ks.length ∧ v.L.n = v.t.ls.length ∧ v.F.n = v.t.fs.length ∧ v.C.n = v.t.cs.length) → ∃ l, ckN 0 (List.replicate N false) vs = .ok l ∧ l.length = N ∧ ∀ j, j < N → l[j]? = some (decide (j < ns.length ∧ j ∉ U)) := by
 induction h with
 | nil =>
  intro N vs _ hv _
  have : vs = [] := by simpa using hv
  subst this
  refine ⟨_, rfl, by simp, fun j hj => ?_⟩
  rw [List.getElem?_replicate, if_pos hj]
  simp
 | @snoc ns U P n h hm hp ih =>
  intro N vs hN hv hl
  have hne : vs ≠ [] := by
   intro e
   rw [e] at hv
   simp at hv
  obtain ⟨us, v, rfl⟩ : ∃ us v, vs = us ++ [v] := ⟨vs.dropLast, vs.getLast hne, (List.dropLast_concat_getLast hne).symm⟩
  rw [List.map_append] at hv
  obtain ⟨hv1, hv2⟩ := List.append_inj' hv rfl
  have hvt : v.t = n := by simpa using hv2
  have hul : us.length = ns.length := by rw [← hv1, List.length_map]
  rw [List.length_append, List.length_singleton] at hN
  obtain ⟨l, e, hln, hj⟩ := ih N us (by omega) hv1 (fun x hx => hl x (List.mem_append_left _ hx))
  obtain ⟨hf1, hf2⟩ := h.fits
  obtain ⟨hnU, hnP, hd⟩ := List.nodup_append.1 hf1
  obtain ⟨l', e', hl', h1, h2⟩ := hs_marks (m := ns.length) P l hnP (fun p hp => ⟨hf2 p (List.mem_append_right _ hp), by
   have hpl := hf2 p (List.mem_append_right _ hp)
   rw [hj p (by omega)]
   simp [hp]⟩) (by omega)
  have k := hl v (by simp)
  have hc : ckV v = 0 := hm v hvt (by rw [← hvt]; exact k.1) (by rw [← hvt]; exact k.2.1) (by rw [← hvt]; exact k.2.2.1) (by rw [← hvt]; exact k.2.2.2)
  refine ⟨l', ?_, hl'.trans hln, fun j hjN => ?_⟩
  ·rw [ckN_snoc9, e]
   simp only [hc, ne_eq, not_true_eq_false, if_false]
   rw [Nat.zero_add, hul, hvt, hp]
   exact e'
  ·by_cases hjp : j ∈ P
   ·rw [h2 j hjp]
    have hjl := hf2 j (List.mem_append_right _ hjp)
    have hjU : j ∉ U := fun hu => hd j hu j hjp rfl
    have : j < (ns ++ [n]).length ∧ j ∉ U ++ [ns.length] := by
     refine ⟨by rw [List.length_append, List.length_singleton]; omega, fun hh => ?_⟩
     rcases List.mem_append.1 hh with hh | hh
     ·exact hjU hh
     ·have : j = ns.length := by simpa using hh
      omega
    rw [decide_eq_true this]
   ·rw [h1 j hjp, hj j hjN]
    congr 1
    refine decide_eq_decide.2 ?_
    rw [List.length_append, List.length_singleton, List.mem_append, List.mem_append, List.mem_singleton]
    constructor
    ·rintro ⟨a, b⟩
     exact ⟨by omega, fun hh => by rcases hh with hh | hh; exact b (.inl hh); omega⟩
    ·rintro ⟨a, b⟩
     exact ⟨by have : j ≠ ns.length := fun e => b (.inr e); omega, fun hh => by rcases hh with hh | hh; exact b (.inl hh); exact hjp hh⟩
theorem Hold.ok {ns : List NT} {ds : List DT} {U : List Nat} (h : Hold ns U) (hU : ds.map DT.ty = natI U) (vs : List NV) (hv : vs.map NV.t = ns) (hl : ∀ v ∈ vs, v.K.n = v.t.ks.length ∧ v.L.n = v.t.ls.length ∧ v.F.n = v.t.fs.length ∧ v.C.n = v.t.cs.length) (hn : ns.length ≤ 2048) (hd : ds.length ≤ 64) (hd0 : 0 < ds.length) : ckS vs ds = 0 := by
 have hvl : vs.length = ns.length := by rw [← hv, List.length_map]
 obtain ⟨l, e, hln, hj⟩ := h.ck vs.length vs (by omega) hv hl
 obtain ⟨hf1, hf2⟩ := h.fits
 obtain ⟨l', e', hl', h1, h2⟩ := hs_marks (m := vs.length) U l hf1 (fun p hp => ⟨by have := hf2 p hp; omega, by
  rw [hj p (by have := hf2 p hp; omega)]
  simp [hp]⟩) (by omega)
 unfold ckS
 rw [if_neg (by omega), e]
 simp only
 rw [hU, e']
 simp only
 rw [if_neg]
 intro ha
 obtain ⟨b, hb, hb2⟩ := List.any_eq_true.1 ha
 obtain ⟨j, hjl, rfl⟩ := List.getElem_of_mem hb
 have hjN : j < vs.length := by omega
 have hg : l'[j]? = some true := by
  by_cases hjU : j ∈ U
  ·exact h2 j hjU
  ·rw [h1 j hjU, hj j hjN]
   have : j < ns.length ∧ j ∉ U := ⟨by omega, hjU⟩
   rw [decide_eq_true this]
 rw [List.getElem?_eq_getElem hjl] at hg
 injection hg with hg
 rw [hg] at hb2
 simp at hb2
end Go.Proofs.YtfcccfplmdjndaaGreat

/- parse: which types the parser leaves held by nothing. -/
namespace Go.Proofs.YtfcccfplmdjndaaGreat
set_option linter.unusedSimpArgs false
set_option linter.unusedVariables false

def Nm (s : RS) : Prop := ∀ t ∈ s.ts, t.1 = 1 → t.2 ≠ []
theorem Nm.sub {s s' : RS} (h : Nm s) (k : ∀ t ∈ s'.ts, t ∈ s.ts) : Nm s' := fun t ht => h t (k t ht)
structure Kp (K : RS → Int × RS) : Prop where
 ok : ∀ s, Ok (K s).2 → Ok s
 ds : ∀ s, (K s).2.ds = s.ds
 sub : ∀ s, ∀ t ∈ (K s).2.ts, t ∈ s.ts
 hold : ∀ s U, Nm s → Ok (K s).2 → Hold s.ns U → ∃ r : Nat, (K s).1 = (r : Int) ∧ Hold (K s).2.ns (U ++ [r])
structure Np (s : RS) (n : NT) (s' : RS) : Prop where
 ok : Ok s' → Ok s
 ds : s'.ds = s.ds
 sub : ∀ t ∈ s'.ts, t ∈ s.ts
 hold : ∀ U, Nm s → Ok s' → Hold s.ns U → ∃ P, n.parts = natI P ∧ Hold s'.ns (U ++ P) ∧ MayT n
theorem Np.flat {s s0 s' : RS} {n : NT} (h : Flat s s0) (k : Np s0 n s') : Np s n s' :=
 ⟨fun x => h.ok (k.ok x), k.ds.trans h.ds, fun t ht => h.sub t (k.sub t ht), fun U hn ho hh => k.hold U (hn.sub h.sub) ho (by rw [h.ns]; exact hh)⟩
theorem num_ok {a b : Nat} {s : RS} (h : Ok (numP a b s).2) : a ≤ (numP a b s).1 ∧ (numP a b s).1 ≤ b := by
 unfold numP at h ⊢
 split at h
 ·exact absurd h (not_fail (by decide) s)
 ·rename_i h1
  rw [if_neg h1]
  split at h
  ·rename_i h2
   exact absurd ((flat_pass _).ok h) (not_fail h2 s)
  ·rename_i h2
   rw [if_neg h2]
   split at h
   ·rename_i h3
    rw [if_pos h3]
    exact h3
   ·exact absurd ((flat_pass _).ok h) (not_fail (by decide) s)
theorem may_kid {n : NT} {k : Int} (hk : n.k = 6 ∨ n.k = 7 ∨ n.k = 8) (hw : n.wd = 0 ∧ n.li = false ∧ n.zg = false ∧ n.le = false ∧ n.mn = 0 ∧ n.mx = 0) (ht : wdB n.k n.tx n.er n.mu n.ad = true) (hr : n.ls = [] ∧ n.fs = [] ∧ n.cs = [] ∧ n.rg = strB [] ∧ n.md = 0 ∧ n.el = 0) : MayT { n with ks := [k] } := by
 intro x hx h1 h2 h3 h4
 obtain ⟨w1, w2, w3, w4, w5, w6⟩ := hw
 obtain ⟨r1, r2, r3, r4, r5, r6⟩ := hr
 unfold ckV foB
 rw [hx, h1, h2, h3, h4]
 simp only [r1, r2, r3, r4, r5, r6, w1, w2, w3, w4, w5, w6, ht]
 rcases hk with e | e | e <;> (rw [e, show ([k] : List Int).length = 1 from rfl]; kernel_rfl)
theorem np_around {K : RS → Int × RS} (hK : Kp K) {n : NT} (hk : n.k = 6 ∨ n.k = 7 ∨ n.k = 8) (hw : n.wd = 0 ∧ n.li = false ∧ n.zg = false ∧ n.le = false ∧ n.mn = 0 ∧ n.mx = 0) (hr : n.ls = [] ∧ n.fs = [] ∧ n.cs = [] ∧ n.rg = strB [] ∧ n.md = 0 ∧ n.el = 0) (s : RS) (ht : Ok s → wdB n.k n.tx n.er n.mu n.ad = true) : Np s (aroundP K n s).1 (aroundP K n s).2 := by
 refine ⟨hK.ok s, hK.ds s, hK.sub s, fun U hn ho hh => ?_⟩
 obtain ⟨r, e, h⟩ := hK.hold s U hn ho hh
 refine ⟨[r], ?_, h, may_kid hk hw (ht (hK.ok s ho)) hr⟩
 show [(K s).1] ++ n.fs.map FT.ty ++ n.cs.map CT.ty ++ (if n.k = 9 ∧ 0 ≤ n.el then [n.el] else []) = _
 rw [hr.2.1, hr.2.2.1, e, if_neg (by omega)]
 rfl
theorem told_hold {K : RS → Int × RS} (hK : Kp K) (s : RS) : (Ok (toldP K s).2 → Ok s) ∧ (toldP K s).2.ds = s.ds ∧ (∀ t ∈ (toldP K s).2.ts, t ∈ s.ts) ∧ ∀ U, Nm s → Ok (toldP K s).2 → Hold s.ns U → ∃ r : Nat, (toldP K s).1 = (r : Int) ∧ Hold (toldP K s).2.ns (U ++ [r]) := by
 have h1 := flat_sign [58] s
 have h2 := flat_sign [59] (K (signP [58] s)).2
 refine ⟨fun h => h1.ok (hK.ok _ (h2.ok h)), h2.ds.trans ((hK.ds _).trans h1.ds), fun t ht => h1.sub t (hK.sub _ t (h2.sub t ht)), fun U hn ho hh => ?_⟩
 obtain ⟨r, e, h⟩ := hK.hold _ U (hn.sub h1.sub) (h2.ok ho) (by rw [h1.ns]; exact hh)
 exact ⟨r, e, by show Hold (signP [59] (K (signP [58] s)).2).ns _; rw [h2.ns]; exact h⟩
theorem field_hold {K : RS → Int × RS} (hK : Kp K) (s : RS) : (Ok (fieldP K s).2 → Ok s) ∧ (fieldP K s).2.ds = s.ds ∧ (∀ t ∈ (fieldP K s).2.ts, t ∈ s.ts) ∧ ∀ U, Nm s → Ok (fieldP K s).2 → Hold s.ns U → ∃ r : Nat, (fieldP K s).1.ty = (r : Int) ∧ Hold (fieldP K s).2.ns (U ++ [r]) := by
 have h1 := (flat_name s).trans (flat_sign [58] _)
 have h2 := flat_took 4 [61] (K (signP [58] (nameP s).2)).2
 unfold fieldP
 simp only
 generalize hb : K (signP [58] (nameP s).2) = b at *
 have ko : Ok b.2 → Ok (signP [58] (nameP s).2) := by rw [← hb]; exact hK.ok _
 have kd : b.2.ds = (signP [58] (nameP s).2).ds := by rw [← hb]; exact hK.ds _
 have ks : ∀ t ∈ b.2.ts, t ∈ (signP [58] (nameP s).2).ts := by rw [← hb]; exact hK.sub _
 have kh : ∀ U, Nm (signP [58] (nameP s).2) → Ok b.2 → Hold (signP [58] (nameP s).2).ns U → ∃ r : Nat, b.1 = (r : Int) ∧ Hold b.2.ns (U ++ [r]) := by rw [← hb]; exact hK.hold _
 split
 ·have h3 := (h2.trans (flat_derive _)).trans (flat_sign [59] _)
  refine ⟨fun h => h1.ok (ko (h3.ok h)), h3.ds.trans (kd.trans h1.ds), fun t ht => h1.sub t (ks t (h3.sub t ht)), fun U hn ho hh => ?_⟩
  obtain ⟨r, e, h⟩ := kh U (hn.sub h1.sub) (h3.ok ho) (by rw [h1.ns]; exact hh)
  exact ⟨r, e, by rw [h3.ns]; exact h⟩
 ·have h3 := h2.trans (flat_sign [59] _)
  refine ⟨fun h => h1.ok (ko (h3.ok h)), h3.ds.trans (kd.trans h1.ds), fun t ht => h1.sub t (ks t (h3.sub t ht)), fun U hn ho hh => ?_⟩
  obtain ⟨r, e, h⟩ := kh U (hn.sub h1.sub) (h3.ok ho) (by rw [h1.ns]; exact hh)
  exact ⟨r, e, by rw [h3.ns]; exact h⟩
theorem natI_snoc (P : List Nat) (r : Nat) : natI (P ++ [r]) = natI P ++ [(r : Int)] := by
 unfold natI
 rw [List.map_append]
 rfl
theorem room_ok {m : Nat} {s : RS} (h : Ok (roomP m s)) : m ≠ 64 := by
 intro e
 unfold roomP at h
 rw [if_pos e] at h
 exact not_owe (by decide) s h
theorem sign_ne {x : List UInt8} {s : RS} (h : Ok (signP x s)) : 0 < s.ts.length := by
 unfold signP at h
 split at h
 ·rename_i hp
  have e : nxt s = (4, x) := of_decide_eq_true hp
  unfold nxt at e
  cases hs : s.ts with
  | nil =>
   rw [hs] at e
   have := congrArg Prod.fst e
   simp at this
  | cons a t => simp
 ·exact absurd h (not_fail (by decide) s)
theorem fields_hold {K : RS → Int × RS} (hK : Kp K) : ∀ (m : Nat) (fs : List FT) (s : RS), (Ok (fieldsP K m fs s).2 → Ok s) ∧ (fieldsP K m fs s).2.ds = s.ds ∧ (∀ t ∈ (fieldsP K m fs s).2.ts, t ∈ s.ts) ∧ ∀ U P, Nm s → Ok (fieldsP K m fs s).2 → fs.length ≤ 64 → fs.map FT.ty = natI P → Hold s.ns (U ++ P) → ∃ P', (fieldsP K m fs s).1.map FT.ty = natI P' ∧ Hold (fieldsP K m fs s).2.ns (U ++ P') ∧ (fieldsP K m fs s).1.length ≤ 64 ∧ (0 < m ∨ 0 < fs.length → 0 < (fieldsP K m fs s).1.length)
 | 0, fs, s => ⟨id, rfl, fun _ h => h, fun U P _ _ hl hp hh => ⟨P, hp, hh, hl, fun h => by rcases h with h | h; exact absurd h (Nat.lt_irrefl 0); exact h⟩⟩
 | m + 1, fs, s => by
  have h1 := flat_room fs.length s
  have h2 := field_hold hK (roomP fs.length s)
  have h3 := room_ok (m := fs.length) (s := s)
  unfold fieldsP
  simp only
  generalize roomP fs.length s = r at *
  generalize fieldP K r = a at *
  obtain ⟨k1, k2, ks, k3⟩ := h2
  have hln : (fs ++ [a.1]).length = fs.length + 1 := by rw [List.length_append, List.length_singleton]
  split
  ·obtain ⟨i1, i2, is_, i3⟩ := fields_hold hK m (fs ++ [a.1]) a.2
   refine ⟨fun h => h1.ok (k1 (i1 h)), i2.trans (k2.trans h1.ds), fun t ht => h1.sub t (ks t (is_ t ht)), fun U P hn ho hl hp hh => ?_⟩
   have ha := i1 ho
   have hr := k1 ha
   have h64 := h3 hr
   obtain ⟨q, e, hq⟩ := k3 (U ++ P) (hn.sub h1.sub) ha (by rw [h1.ns]; exact hh)
   obtain ⟨P', p1, p2, p3, p4⟩ := i3 U (P ++ [q]) ((hn.sub h1.sub).sub ks) ho (by rw [hln]; omega) (by rw [List.map_append, hp, natI_snoc, ← e]; rfl) (by rw [← List.append_assoc]; exact hq)
   exact ⟨P', p1, p2, p3, fun _ => p4 (.inr (by rw [hln]; omega))⟩
  ·refine ⟨fun h => h1.ok (k1 h), k2.trans h1.ds, fun t ht => h1.sub t (ks t ht), fun U P hn ho hl hp hh => ?_⟩
   have hr := k1 ho
   have h64 := h3 hr
   obtain ⟨q, e, hq⟩ := k3 (U ++ P) (hn.sub h1.sub) ho (by rw [h1.ns]; exact hh)
   exact ⟨P ++ [q], by rw [List.map_append, hp, natI_snoc, ← e]; rfl, by rw [← List.append_assoc]; exact hq, by rw [hln]; omega, fun _ => by rw [hln]; omega⟩
theorem may_record {fs : List FT} (h1 : 0 < fs.length) (h2 : fs.length ≤ 64) : MayT { ntZ with k := 5, fs := fs } := by
 intro x hx k1 k2 k3 k4
 unfold ckV foB
 rw [hx, k1, k2, k3, k4]
 have e1 : decide (0 < fs.length) = true := decide_eq_true h1
 have e2 : ¬ 64 < max (max ntZ.ks.length fs.length) ntZ.cs.length := by simp [ntZ]; omega
 dsimp only
 rw [e1, if_neg e2]
 first
  | rfl
  | (show _ = (0 : Nat); kernel_rfl)
theorem np_record {K : RS → Int × RS} (hK : Kp K) (s : RS) : Np s (recordP K s).1 (recordP K s).2 := by
 obtain ⟨i1, i2, is_, i3⟩ := fields_hold hK s.ts.length [] s
 have h1 := flat_sign [125] (fieldsP K s.ts.length [] s).2
 refine ⟨fun h => i1 (h1.ok h), h1.ds.trans i2, fun t ht => is_ t (h1.sub t ht), fun U hn ho hh => ?_⟩
 obtain ⟨P', p1, p2, p3, p4⟩ := i3 U [] hn (h1.ok ho) (Nat.zero_le _) rfl (by rw [List.append_nil]; exact hh)
 have hm : 0 < s.ts.length := by
  rcases Nat.eq_zero_or_pos s.ts.length with e | e
  ·have := sign_ne ho
   rw [e] at this
   have e2 : (fieldsP K 0 [] s).2 = s := rfl
   rw [e2] at this
   omega
  ·exact e
 refine ⟨P', ?_, ?_, may_record (p4 (.inl hm)) p3⟩
 ·have hk : ¬ ((recordP K s).1.k = 9 ∧ 0 ≤ (recordP K s).1.el) := fun h => absurd h.1 (by show ¬ (5 : Int) = 9; decide)
  unfold NT.parts
  rw [if_neg hk]
  show [] ++ (fieldsP K s.ts.length [] s).1.map FT.ty ++ [] ++ [] = _
  rw [p1]
  simp
 ·show Hold (signP [125] (fieldsP K s.ts.length [] s).2).ns _
  rw [h1.ns]
  exact p2
end Go.Proofs.YtfcccfplmdjndaaGreat
