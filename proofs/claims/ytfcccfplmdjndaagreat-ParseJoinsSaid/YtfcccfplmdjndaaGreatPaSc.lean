/- parse: all names. -/
import Derived.Test.YtfcccfplmdjndaaGreatPaQ
import Derived.Test.YtfcccfplmdjndaaGreatLxS
namespace Go.Proofs.YtfcccfplmdjndaaGreat
set_option linter.unusedSimpArgs false
set_option linter.unusedVariables false
open Go.RowKit

variable {w w' w0 : World} {O O0 O' : Nat → Prop} {g : Nat} {L : List Tk} {s s' : RS}
theorem dec_def (n : Nat) (h : 0 < s.ts.length) : Dec s (defP n s) := by
 have h1 := suf_name h
 have k2 := suf_sign h1.pos [61]
 have k3 := k2.trans (suf_kind n 0 _ k2.pos)
 have k4 := k3.trans (suf_sign k3.pos [59])
 exact (dec_name h).suf (k4.trans (suf_nameA k4.pos _ _))
def knownP (d : DT) (s : RS) : RS := ⟨s.ts, s.ns, s.ds ++ [d], s.du, s.fc, s.fi⟩
theorem bname_g (h : At w0 O0 g L w O s) (nm : ByteArray) (ty : Int) : Calls Tryz.prog 16 #[.pointer (some ⟨g, 1, none⟩), .string nm, .int .i64 ty] w fun e w' => e = .returned (.int .i64 (if s.ds.length = 64 then 2 else 0)) ∧ ∃ O', At w0 O0 g L w' O' (if s.ds.length = 64 then s else knownP ⟨nm, ty⟩ s) := by
 obtain ⟨A, c, vs, nv, dv, hr⟩ := h.rd
 by_cases h1 : s.ds.length = 64
 ·simp only [if_pos h1]
  refine (Name_no_ hr.bo nm ty h1).mono ?_
  rintro e w' ⟨rfl, hb⟩
  exact ⟨rfl, O, h.below hb⟩
 ·simp only [if_neg h1]
  have hn := hr.dn
  refine (Name_yes_ hr.bo nm ty (by omega)).mono ?_
  rintro e w' ⟨rfl, dv', hb, hc⟩
  refine ⟨rfl, grownO O w w', ?_, ?_, ?_⟩
  ·have hS : ∀ a, A = some a → ¬ (a.block = g ∨ dv.ownBlock = some a.block) := by
    intro a e
    rintro (e2 | e2)
    ·exact hr.tok_ne e e2
    ·obtain ⟨cs, hB⟩ := hr.ty a e
     exact own_neN hr.bo.rd hB (by decide) e2
   refine ⟨A, c, vs, nv, dv', hb, hr.ns, hr.fit, hr.tk.chg hc hS, fun a e => .inl (hr.ob a e), fun a e => ?_, hr.ts, hr.pos, hr.le, hr.cap, hr.big, hr.txt, hr.nn, ?_⟩
   ·obtain ⟨cs, hB⟩ := hr.ty a e
    exact ⟨cs, hB.chg hc (hS a e)⟩
   ·show (s.ds ++ [_]).length ≤ 64
    rw [List.length_append, List.length_singleton]
    omega
  ·have k1 : Chg w w' (fun k => O0 k ∨ w0.heap.size ≤ k) := hc.more (fun k hk hs => by
    rcases hs with e | e
    ·rw [e]; exact h.gr _ hr.bo.og
    ·exact h.gr _ (hr.bo.od _ e))
   have k2 : Chg w0 w (fun k => O0 k ∨ w0.heap.size ≤ k) := h.ch.more (fun k _ hk => .inl hk)
   refine (k2.trans k1).more (fun k hk ho => ?_)
   rcases ho with ho | ho
   ·exact ho
   ·omega
  ·intro b hb2
   rcases hb2 with hb2 | hb2
   ·exact h.gr b hb2
   ·exact .inr (Nat.le_trans h.ch.size hb2.1)
theorem nameA_eq (nm : List UInt8) (k : Int) (s : RS) : nameA nm k s = if s.ds.length = 64 then oweP 2 s else knownP ⟨⟨nm.toArray⟩, k⟩ s := rfl
set_option maxRecDepth 100000 in
set_option maxHeartbeats 8000000 in
theorem names_any (n : Nat) (hn : n ≤ 100000) (h : RdX w O g L s) (he : EndS s) (hN : s.ts.length ≤ n) : Calls Tryz.prog 22 #[.pointer (some ⟨g, 0, none⟩)] w fun e w' => e = .returned (.tuple #[]) ∧ StG w O g L (namesP n s.ts.length s) w' := by
 have HA := hid (At.start h)
 obtain ⟨P, hP⟩ : ∃ P, P = namesP n s.ts.length s := ⟨_, rfl⟩
 have HQ := hid hP
 rw [← hP]
 have HEd := hid he
 have HNl := hid hN
 have HK : Hid (KOk n 0 (kindP n 0) L) := hid (kind_ok n n 0 (Nat.le_refl _) (by omega))
 clear hP h he hN
 go_enter Tryz.func22, Tryz.ntmps22
 go_upto_block 0 with fail
 go_wp2_with fail
 go_loopg [2] (s.ts.length + 1) (fun m t wr => ∃ (ok : Bool) (Oi : Nat → Prop) (si : RS), t = .bool ok ∧ (ok = true → si.ts.length ≤ m) ∧ Hid (ok = true → ∃ k, si.ts.length ≤ k ∧ namesP n k si = P) ∧ Hid (ok = false → passP si = P) ∧ Hid (EndS si ∧ si.ts.length ≤ n) ∧ Hid (At w O g L wr Oi si))
 case atStart => exact ⟨true, O, s, rfl, fun _ => by omega, hid (fun _ => ⟨s.ts.length, Nat.le_refl _, HQ.out.symm⟩), hid (fun h => (by cases h)), hid ⟨HEd.out, HNl.out⟩, HA⟩
 case round =>
  clear HA
  obtain ⟨ok, Oi, si, rfl, hm, HGo, HStp, HEi, HA⟩ := hrel
  cases ok
  ·clear hm HGo
   have HTe := hid (HStp.out rfl)
   clear HStp
   have HC := hid (show Calls Tryz.prog 56 #[.pointer (some ⟨g, 0, none⟩)] _ (fun e w' => e = .returned (.tuple #[]) ∧ StG _ _ g L (passP si) w') from pass_g HA.out.rd)
   go_wp2_with (go_at_call 56; (with_reducible refine HC.out.mono ?_); rintro e wk ⟨rfl, hk⟩; obtain ⟨Ok, ha, hc, hn⟩ := At.call2 HA.out hk; replace HA := hid ha; clear hk ha hc hn; clear HC)
   go_end0
   rw [← HTe.out]
   exact ⟨rfl, HA.out.stg⟩
  ·clear HStp
   replace hm := hm rfl
   replace HGo := hid (HGo.out rfl)
   have Hpos := hid HEi.out.1.pos
   have HC := hid (name_g HA.out.rd)
   obtain ⟨u1, hu1⟩ : ∃ u, u = nameP si := ⟨_, rfl⟩
   have k1 := suf_name HEi.out.1.pos
   rw [← hu1] at HC k1
   have HU1 := hid hu1
   have HE1 := hid (HEi.out.1.suf k1)
   have HN1 := hid (Nat.le_trans k1.le HEi.out.2)
   clear hu1 k1
   obtain ⟨x, s1⟩ := u1
   simp only at HC HE1 HN1
   go_upto_region 4 with (go_at_call 52; (with_reducible refine HC.out.mono ?_); rintro e wk ⟨rfl, hk⟩; obtain ⟨Ok, ha, hc, hn⟩ := At.call2 HA.out hk; replace HA := hid ha; clear hk ha hc hn; clear HC)
   have HC := hid (show Calls Tryz.prog 53 #[.pointer (some ⟨g, 0, none⟩), .string ⟨#[61]⟩] _ (fun e w' => e = .returned (.tuple #[]) ∧ StG _ _ g L (signP [61] s1) w') from sign_g HA.out.rd [61])
   obtain ⟨s2, hs2⟩ : ∃ u, u = signP [61] s1 := ⟨_, rfl⟩
   have k1 := suf_sign HE1.out.pos [61]
   rw [← hs2] at HC k1
   have HS2 := hid hs2
   have HE2 := hid (HE1.out.suf k1)
   have HN2 := hid (Nat.le_trans k1.le HN1.out)
   clear hs2 k1
   go_upto_region 5 with (go_at_call 53; (with_reducible refine HC.out.mono ?_); rintro e wk ⟨rfl, hk⟩; obtain ⟨Ok, ha, hc, hn⟩ := At.call2 HA.out hk; replace HA := hid ha; clear hk ha hc hn; clear HC)
   have HC := hid (HK.out _ _ _ _ HA.out.rd HE2.out HN2.out)
   obtain ⟨u3, hu3⟩ : ∃ u, u = kindP n 0 s2 := ⟨_, rfl⟩
   have k1 := suf_kind n 0 s2 HE2.out.pos
   rw [← hu3] at HC k1
   have HU3 := hid hu3
   have HE3 := hid (HE2.out.suf k1)
   have HN3 := hid (Nat.le_trans k1.le HN2.out)
   clear hu3 k1
   obtain ⟨kd, s3⟩ := u3
   simp only at HC HE3 HN3
   go_upto_region 6 with (go_at_call 54; (with_reducible refine HC.out.mono ?_); rintro e wk ⟨rfl, hk⟩; obtain ⟨Ok, ha, hc, hn⟩ := At.call2 HA.out hk; replace HA := hid ha; clear hk ha hc hn; clear HC)
   have HC := hid (show Calls Tryz.prog 53 #[.pointer (some ⟨g, 0, none⟩), .string ⟨#[59]⟩] _ (fun e w' => e = .returned (.tuple #[]) ∧ StG _ _ g L (signP [59] s3) w') from sign_g HA.out.rd [59])
   obtain ⟨s4, hs4⟩ : ∃ u, u = signP [59] s3 := ⟨_, rfl⟩
   have k1 := suf_sign HE3.out.pos [59]
   rw [← hs4] at HC k1
   have HS4 := hid hs4
   have HE4 := hid (HE3.out.suf k1)
   have HN4 := hid (Nat.le_trans k1.le HN3.out)
   clear hs4 k1
   go_upto_region 7 with (go_at_call 53; (with_reducible refine HC.out.mono ?_); rintro e wk ⟨rfl, hk⟩; obtain ⟨Ok, ha, hc, hn⟩ := At.call2 HA.out hk; replace HA := hid ha; clear hk ha hc hn; clear HC)
   obtain ⟨s5, hs5⟩ : ∃ u, u = nameA x kd s4 := ⟨_, rfl⟩
   have k1 := suf_nameA HE4.out.pos x kd
   rw [← hs5] at k1
   have HE5 := hid (HE4.out.suf k1)
   have HN5 := hid (Nat.le_trans k1.le HN4.out)
   clear k1
   have HDf := hid (show defP n si = s5 from by
    unfold defP
    simp only [← HU1.out, ← HS2.out, ← HU3.out, ← HS4.out, hs5])
   have HDc := hid (dec_def n HEi.out.1.pos)
   rw [HDf.out] at HDc
   have HGO := hid (show ∀ k, namesP n (k + 1) si = if (nxt s5).1 = 5 then passP s5 else namesP n k s5 from fun k => by
    conv => lhs; unfold namesP
    simp only [HDf.out])
   obtain ⟨cd, hcd⟩ : ∃ c : Int, c = (if s4.ds.length = 64 then 2 else 0) := ⟨_, rfl⟩
   obtain ⟨s6, hs6⟩ : ∃ u, u = (if s4.ds.length = 64 then s4 else knownP ⟨⟨x.toArray⟩, kd⟩ s4) := ⟨_, rfl⟩
   have HC := hid (bname_g HA.out ⟨x.toArray⟩ kd)
   rw [← hcd, ← hs6] at HC
   have HO5 := hid (show ∃ c : Nat, cd = (c : Int) ∧ oweP c s6 = s5 from by
    rw [hcd, hs6, hs5, nameA_eq]
    by_cases h1 : s4.ds.length = 64
    ·simp only [if_pos h1]
     exact ⟨2, rfl, rfl⟩
    ·simp only [if_neg h1]
     exact ⟨0, rfl, owe0 _⟩)
   clear hs5 hs6 hcd
   obtain ⟨c, hc1, hc2⟩ := HO5.out
   have HOw := hid hc2
   subst hc1
   clear hc2 HO5
   go_upto_region 2 with (first
    | (go_at_call 16; (with_reducible refine HC.out.mono ?_); rintro e wk ⟨rfl, Ok, hk⟩; replace HA := hid hk; clear hk HC; have HC1 := hid (owe_g HA.out.rd c); rw [HOw.out] at HC1)
    | (go_at_call 55; (with_reducible refine HC1.out.mono ?_); rintro e wk ⟨rfl, hk⟩; obtain ⟨Ok, ha, hc, hn⟩ := At.call2 HA.out hk; replace HA := hid ha; clear hk ha hc hn; clear HC1))
   obtain ⟨p, hnx⟩ := next_g HA.out.rd
   have HC := hid hnx
   have q0 := tok_0 (nxt s5).1 p (nxt s5).2
   clear hnx
   by_cases hk : (nxt s5).1 = 5
   ·have hk0 : (((nxt s5).1 : Int) == 5) = true := by simpa using (show ((nxt s5).1 : Int) = 5 by omega)
    have hkb : (((nxt s5).1 : Int) != 5) = false := by unfold bne; rw [hk0]; rfl
    clear hk0
    have HK5 := hid hk
    clear hk
    go_wp2_with (go_at_call 51; (with_reducible refine HC.out.mono ?_); rintro e wk ⟨rfl, hk⟩; obtain ⟨Ok, ha, hc, hn⟩ := At.call2 HA.out hk; replace HA := hid ha; clear hk ha hc hn; clear HC)
    go_roundg 0
    case measure => have := hm; have := Hpos.out; omega
    case rel =>
     refine ⟨false, Ok, s5, by first | rfl | rw [hkb], fun h => (by cases h), hid (fun h => (by cases h)), hid (fun _ => ?_), hid ⟨HE5.out, HN5.out⟩, HA⟩
     obtain ⟨k, hk1, hk2⟩ := HGo.out
     obtain ⟨k', rfl⟩ : ∃ k', k = k' + 1 := ⟨k - 1, by have := Hpos.out; omega⟩
     rw [← hk2, HGO.out, if_pos HK5.out]
   ·have hk0 : (((nxt s5).1 : Int) == 5) = false := by simpa using (show ¬ ((nxt s5).1 : Int) = 5 by omega)
    have hkb : (((nxt s5).1 : Int) != 5) = true := by unfold bne; rw [hk0]; rfl
    clear hk0
    have HK5 := hid hk
    clear hk
    have hlt := hid (HDc.out.less HE5.out HK5.out)
    go_wp2_with (go_at_call 51; (with_reducible refine HC.out.mono ?_); rintro e wk ⟨rfl, hk⟩; obtain ⟨Ok, ha, hc, hn⟩ := At.call2 HA.out hk; replace HA := hid ha; clear hk ha hc hn; clear HC)
    go_roundg (s5.ts.length)
    case measure => have := hm; have := hlt.out; omega
    case rel =>
     refine ⟨true, Ok, s5, by first | rfl | rw [hkb], fun _ => Nat.le_refl _, hid (fun _ => ?_), hid (fun h => (by cases h)), hid ⟨HE5.out, HN5.out⟩, HA⟩
     obtain ⟨k, hk1, hk2⟩ := HGo.out
     obtain ⟨k', rfl⟩ : ∃ k', k = k' + 1 := ⟨k - 1, by have := Hpos.out; omega⟩
     exact ⟨k', by have := hlt.out; omega, by rw [← hk2, HGO.out, if_neg HK5.out]⟩
end Go.Proofs.YtfcccfplmdjndaaGreat

/- parse: what Scan answers ends with an End, isn't long, and has no long text. -/
namespace Go.Proofs.YtfcccfplmdjndaaGreat
set_option linter.unusedSimpArgs false
set_option linter.unusedVariables false
open Go.RowKit

theorem front_x {l : List UInt8} {k : Nat} {x : List UInt8} {n : Nat} (h : front l = .ok (k, x, n)) : x.length ≤ l.length ∨ x.length ≤ 2 := by
 cases l with
 | nil => cases h
 | cons c t =>
  rw [front_cons] at h
  repeat' split at h
  all_goals first
   | (cases h; done)
   | (injection h with h
      injection h with h1 h2
      injection h2 with h2 h3
      subst h2
      first
       | (left; simp only [List.length_take, List.length_cons]; omega)
       | (right; simp))
theorem scan_fits : ∀ (m : Nat) (r : List UInt8) (p n : Nat) (ts : List Tk), scanF m r p n = .ok ts → r.length ≤ 65536 → n ≤ 8192 → (∃ l t, ts = l ++ [t] ∧ t.k = 5) ∧ ts.length + n ≤ 8193 ∧ ∀ t ∈ ts, t.x.length ≤ 65536
 | 0, _, _, _, _, h, _, _ => by cases h
 | m + 1, r, p, n, ts, h, hr, hn => by
  rw [scanF_succ] at h
  have hl : (r.drop (gap false r)).length ≤ 65536 := by rw [List.length_drop]; omega
  generalize r.drop (gap false r) = q at *
  generalize p + gap false r = p' at *
  by_cases he : q = []
  ·rw [he, scanG_end] at h
   injection h with h
   subst h
   exact ⟨⟨[], _, rfl, rfl⟩, by simp only [List.length_cons, List.length_nil]; omega, fun t ht => by
    have : t = ⟨5, p', []⟩ := by simpa using ht
    subst this
    exact Nat.zero_le _⟩
  ·by_cases hn2 : n = 8192
   ·rw [hn2, scanG_full he] at h; cases h
   ·cases hf : front q with
    | error e => rw [scanG_bad he hn2 hf] at h; cases h
    | ok v =>
     obtain ⟨k, x, j⟩ := v
     have hx := front_x hf
     rw [scanG_ok he hn2 hf] at h
     cases hs : scanF m (q.drop j) (p' + j) (n + 1) with
     | error e => rw [hs] at h; cases h
     | ok us =>
      rw [hs] at h
      injection h with h
      subst h
      obtain ⟨⟨l, t, e, h5⟩, h2, h3⟩ := scan_fits m _ _ _ us hs (by rw [List.length_drop]; omega) (by omega)
      refine ⟨⟨⟨k, p', x⟩ :: l, t, by rw [e]; rfl, h5⟩, ?_, fun t ht => ?_⟩
      ·simp only [List.length_append, List.length_cons, List.length_nil]
       omega
      ·rcases List.mem_append.1 ht with ht | ht
       ·have : t = ⟨k, p', x⟩ := by simpa using ht
        subst this
        show x.length ≤ _
        omega
       ·exact h3 t ht
theorem scanT_fits {l : List UInt8} {ts : List Tk} (h : scanT l = .ok ts) : (∃ k t, ts = k ++ [t] ∧ t.k = 5) ∧ ts.length ≤ 8193 ∧ ∀ t ∈ ts, t.x.length ≤ 65536 := by
 unfold scanT at h
 split at h
 ·cases h
 ·have := scan_fits _ _ _ _ _ h (by omega) (by omega)
  exact ⟨this.1, by have := this.2.1; omega, this.2.2⟩
end Go.Proofs.YtfcccfplmdjndaaGreat
