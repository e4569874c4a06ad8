/- parse: what Parse answers, in the end: a specification that may be, or a fault at a token. -/
import Derived.Test.YtfcccfplmdjndaaGreatPaHw
import Derived.Test.YtfcccfplmdjndaaGreatPaPr
import Derived.Test.YtfcccfplmdjndaaGreatPaFw
import Derived.KernelRfl
import Derived.Test.YtfcccfplmdjndaaGreatSpT
namespace Go.Proofs.YtfcccfplmdjndaaGreat
set_option linter.unusedSimpArgs false
set_option linter.unusedVariables false
open Go.RowKit

theorem front_name {l : List UInt8} {x : List UInt8} {n : Nat} (h : front l = .ok (1, x, n)) : x ≠ [] := by
 cases l with
 | nil => cases h
 | cons c t =>
  rw [front_cons] at h
  by_cases hc : letN c.toNat = true
  ·rw [if_pos hc] at h
   have h2 := span_pos (p := namB) (c := c) (t := t) (by unfold namB; rw [hc]; rfl)
   split at h
   ·cases h
   ·injection h with h
    injection h with _ h
    injection h with h _
    subst h
    obtain ⟨k, hk⟩ : ∃ k, span namB (c :: t) = k + 1 := ⟨span namB (c :: t) - 1, by omega⟩
    rw [hk, List.take_succ_cons]
    exact List.cons_ne_nil _ _
  ·rw [if_neg hc] at h
   exfalso
   repeat' split at h
   all_goals first
    | (cases h; done)
    | (injection h with h; injection h with h; omega)
theorem scan_names : ∀ (m : Nat) (r : List UInt8) (p n : Nat) (ts : List Tk), scanF m r p n = .ok ts → ∀ t ∈ ts, t.k = 1 → t.x ≠ []
 | 0, _, _, _, _, h => by cases h
 | m + 1, r, p, n, ts, h => by
  rw [scanF_succ] at h
  generalize r.drop (gap false r) = q at *
  generalize p + gap false r = p' at *
  by_cases he : q = []
  ·rw [he, scanG_end] at h
   injection h with h
   subst h
   intro t ht hk
   have : t = ⟨5, p', []⟩ := by simpa using ht
   subst this
   exact absurd (show (5 : Nat) = 1 from hk) (by decide)
  ·by_cases hn2 : n = 8192
   ·rw [hn2, scanG_full he] at h; cases h
   ·cases hf : front q with
    | error e => rw [scanG_bad he hn2 hf] at h; cases h
    | ok v =>
     obtain ⟨k, x, j⟩ := v
     rw [scanG_ok he hn2 hf] at h
     cases hs : scanF m (q.drop j) (p' + j) (n + 1) with
     | error e => rw [hs] at h; cases h
     | ok us =>
      rw [hs] at h
      injection h with h
      subst h
      intro t ht hk
      rcases List.mem_append.1 ht with ht | ht
      ·have : t = ⟨k, p', x⟩ := by simpa using ht
       subst this
       have hk : k = 1 := hk
       subst hk
       exact front_name hf
      ·exact scan_names m _ _ _ us hs t ht hk
theorem scanT_names {l : List UInt8} {ts : List Tk} (h : scanT l = .ok ts) : ∀ t ∈ stripT ts, t.1 = 1 → t.2 ≠ [] := by
 unfold scanT at h
 split at h
 ·cases h
 ·intro t ht hk
  obtain ⟨u, hu, rfl⟩ := List.mem_map.1 ht
  exact scan_names _ _ _ _ _ h u hu hk
theorem pass_du {s : RS} (h : (passP s).fc = 0) : (passP s).du = 0 := by
 unfold passP at h ⊢
 split at h
 ·rename_i h1
  exfalso
  have h : (if s.fc = 0 then s.du else s.fc) = 0 := h
  split at h
  ·exact h1 h
  ·contradiction
 ·rename_i h1
  rw [if_neg h1]
  split
  ·show s.du = 0
   omega
  ·omega
theorem names_du (n : Nat) : ∀ (m : Nat) (s : RS), EndS s → s.ts.length ≤ m → (namesP n m s).fc = 0 → (namesP n m s).du = 0
 | 0, s, he, hl, _ => absurd he.pos (by omega)
 | m + 1, s, he, hl, h => by
  have h1 := suf_def n he.pos
  have h2 := dec_def n he.pos
  unfold namesP at h ⊢
  simp only at h ⊢
  split
  ·rename_i h5
   rw [if_pos h5] at h
   exact pass_du h
  ·rename_i h5
   rw [if_neg h5] at h
   have hd := h2.less (he.suf h1) h5
   exact names_du n m _ (he.suf h1) (by omega) h
def PsQ (x : Except (Nat × Nat) (List Tk)) (w : World) (e : Ending) (w' : World) : Prop := Below w.heap.size w w' ∧ match x with
 | .error (c, p) => e = .returned (.tuple #[.agg #[.slice none 0 0, .slice none 0 0], .agg #[.int .i64 (c : Int), .int .i64 (p : Int)]])
 | .ok ts => if (parseL (stripT ts)).fc ≠ 0 then e = .returned (.tuple #[.agg #[.slice none 0 0, .slice none 0 0], .agg #[.int .i64 ((parseL (stripT ts)).fc : Int), .int .i64 (placeL ts (parseL (stripT ts)).fi : Int)]])
  else ∃ s' : SpV, e = .returned (.tuple #[s'.val, .agg #[.int .i64 0, .int .i64 0]]) ∧ s'.ds = (parseL (stripT ts)).ds ∧ s'.ts = (parseL (stripT ts)).ns ∧ SpecOwn w' w.heap.size s' ∧ (∀ v ∈ s'.vs, Fits v) ∧ s'.vs.length ≤ 2048 ∧ s'.ds.length ≤ 64 ∧ 0 < s'.ds.length ∧ ckS s'.vs s'.ds = 0 ∧ ∀ d ∈ s'.ds, NmOk d
theorem parse_ever (s : ByteArray) (w : World) : Calls Tryz.prog 8 #[.string s] w (PsQ (scanT s.data.toList) w) := by
 refine (parse_any s w).mono ?_
 intro e w' h
 cases hx : scanT s.data.toList with
 | error c =>
  obtain ⟨c, p⟩ := c
  rw [hx] at h
  exact h
 | ok ts =>
  rw [hx] at h
  obtain ⟨hb, h⟩ := h
  refine ⟨hb, ?_⟩
  simp only at h ⊢
  obtain ⟨hend, hl9, hx9⟩ := scanT_fits hx
  split
  ·rename_i h1
   rw [if_pos h1] at h
   exact h
  ·rename_i h1
   rw [if_neg h1] at h
   obtain ⟨vs, hns, hlk, hvl, hdl, h⟩ := h
   have hfc : (parseL (stripT ts)).fc = 0 := by omega
   have hok : Ok (parseL (stripT ts)) := ⟨hfc, names_du _ _ _ (end_start hend) (Nat.le_refl _) hfc⟩
   have hne : stripT ts ≠ [] := by
    obtain ⟨k, t, e, _⟩ := hend
    rw [e]
    simp [stripT]
   obtain ⟨⟨U, hU, hUd⟩, hnm, hd0⟩ := parseL_hold (scanT_names hx) (fun t ht => by obtain ⟨u, hu, rfl⟩ := List.mem_map.1 ht; exact hx9 u hu) hne hok
   have hck : ∀ us : List NV, us.map NV.t = (parseL (stripT ts)).ns → (∀ v ∈ us, v.K.n = v.t.ks.length ∧ v.L.n = v.t.ls.length ∧ v.F.n = v.t.fs.length ∧ v.C.n = v.t.cs.length) → ckS us (parseL (stripT ts)).ds = 0 := fun us h1 h2 => hU.ok hUd us h1 h2 (by rw [← hns, List.length_map]; exact hvl) hdl hd0
   have h0 := hck vs hns (fun v hv => (hlk v hv).1)
   rcases h with ⟨h, _⟩ | ⟨_, s', he, hsd, hst, hso⟩
   ·exact absurd h0 h
   ·have hsh : ∀ v ∈ s'.vs, v.K.n = v.t.ks.length ∧ v.L.n = v.t.ls.length ∧ v.F.n = v.t.fs.length ∧ v.C.n = v.t.cs.length := fun v hv => ⟨(hso.each v hv).kn, (hso.each v hv).ln, (hso.each v hv).fn, (hso.each v hv).cn⟩
    refine ⟨s', he, hsd, hst, hso, fun v hv => ?_, ?_, by rw [hsd]; exact hdl, by rw [hsd]; exact hd0, ?_, by rw [hsd]; exact hnm⟩
    ·have hm : v.t ∈ vs.map NV.t := by
      rw [hns, ← hst]
      exact List.mem_map.2 ⟨v, hv, rfl⟩
     obtain ⟨u, hu, hut⟩ := List.mem_map.1 hm
     obtain ⟨⟨u1, u2, u3, u4⟩, uf⟩ := hlk u hu
     obtain ⟨v1, v2, v3, v4⟩ := hsh v hv
     rw [hut] at u1 u2 u3 u4
     exact ⟨by rw [v1, ← u1]; exact uf.k, by rw [v2, ← u2]; exact uf.l, by rw [v3, ← u3]; exact uf.f, by rw [v4, ← u4]; exact uf.c⟩
    ·have : s'.vs.length = vs.length := by
      have := congrArg List.length (hst.trans hns.symm)
      unfold SpV.ts at this
      rwa [List.length_map, List.length_map] at this
     omega
    ·rw [hsd]
     exact hck s'.vs hst hsh
end Go.Proofs.YtfcccfplmdjndaaGreat

/- parse: the fixed texts of the law: their tokens, and what they are. -/
namespace Go.Proofs.YtfcccfplmdjndaaGreat
set_option linter.unusedSimpArgs false
set_option linter.unusedVariables false

def evT : List Tk := [⟨1, 0, [110, 97, 109, 101]⟩, ⟨4, 5, [61]⟩, ⟨1, 7, [99, 104, 97, 105, 110]⟩, ⟨4, 13, [123]⟩, ⟨4, 15, [123]⟩, ⟨1, 17, [110]⟩, ⟨4, 18, [58]⟩, ⟨1, 20, [117, 56]⟩, ⟨2, 23, [49]⟩, ⟨4, 24, [46, 46]⟩, ⟨2, 26, [54, 51]⟩, ⟨4, 29, [61]⟩, ⟨1, 31, [115, 105, 122, 101]⟩, ⟨4, 35, [40]⟩, ⟨1, 36, [116]⟩, ⟨4, 37, [41]⟩, ⟨4, 38, [59]⟩, ⟨1, 40, [116]⟩, ⟨4, 41, [58]⟩, ⟨1, 43, [98, 121, 116, 101, 115]⟩, ⟨4, 48, [91]⟩, ⟨1, 49, [110]⟩, ⟨4, 50, [93]⟩, ⟨4, 51, [59]⟩, ⟨4, 53, [125]⟩, ⟨4, 55, [124]⟩, ⟨1, 57, [108, 97, 115, 116]⟩, ⟨1, 62, [117, 56]⟩, ⟨2, 65, [48]⟩, ⟨4, 66, [46, 46]⟩, ⟨2, 68, [48]⟩, ⟨4, 70, [125]⟩, ⟨4, 71, [59]⟩, ⟨1, 73, [109, 97, 105, 110]⟩, ⟨4, 78, [61]⟩, ⟨4, 80, [123]⟩, ⟨1, 82, [107]⟩, ⟨4, 83, [58]⟩, ⟨1, 85, [117, 49, 54, 98, 101]⟩, ⟨4, 91, [61]⟩, ⟨1, 93, [99, 111, 117, 110, 116]⟩, ⟨4, 98, [40]⟩, ⟨1, 99, [113]⟩, ⟨4, 100, [41]⟩, ⟨4, 101, [59]⟩, ⟨1, 103, [113]⟩, ⟨4, 104, [58]⟩, ⟨1, 106, [116, 105, 109, 101, 115]⟩, ⟨4, 111, [91]⟩, ⟨1, 112, [107]⟩, ⟨4, 113, [93]⟩, ⟨1, 115, [110, 97, 109, 101]⟩, ⟨4, 119, [59]⟩, ⟨1, 121, [114]⟩, ⟨4, 122, [58]⟩, ⟨1, 124, [115, 119, 105, 116, 99, 104]⟩, ⟨1, 131, [107]⟩, ⟨4, 133, [37]⟩, ⟨2, 135, [50]⟩, ⟨4, 137, [123]⟩, ⟨2, 139, [48]⟩, ⟨4, 140, [58]⟩, ⟨1, 142, [101, 109, 112, 116, 121]⟩, ⟨4, 147, [59]⟩, ⟨1, 149, [101, 108, 115, 101]⟩, ⟨4, 153, [58]⟩, ⟨3, 155, [97]⟩, ⟨4, 158, [59]⟩, ⟨4, 160, [125]⟩, ⟨4, 161, [59]⟩, ⟨1, 163, [99]⟩, ⟨4, 164, [58]⟩, ⟨1, 166, [117, 51, 50, 98, 101]⟩, ⟨4, 172, [61]⟩, ⟨1, 174, [99, 114, 99]⟩, ⟨4, 177, [40]⟩, ⟨1, 178, [107]⟩, ⟨4, 179, [46, 46]⟩, ⟨1, 181, [113]⟩, ⟨4, 182, [41]⟩, ⟨4, 183, [59]⟩, ⟨1, 185, [119]⟩, ⟨4, 186, [58]⟩, ⟨1, 188, [119, 105, 116, 104, 105, 110]⟩, ⟨4, 194, [91]⟩, ⟨2, 195, [50]⟩, ⟨4, 196, [42]⟩, ⟨1, 197, [107]⟩, ⟨4, 198, [43]⟩, ⟨2, 199, [49]⟩, ⟨4, 200, [93]⟩, ⟨1, 202, [109, 97, 110, 121]⟩, ⟨1, 207, [118, 97, 114, 105, 110, 116]⟩, ⟨4, 213, [59]⟩, ⟨4, 215, [125]⟩, ⟨4, 216, [59]⟩, ⟨5, 217, []⟩]
def evN : List NT := [⟨1, 1, false, false, false, 1, 63, strB [], strB [], 0, 0, [], [], [], strB [], 0, [], 0⟩,
 ⟨4, 0, false, false, false, 0, 0, strB [], strB [110], 1, 0, [], [], [], strB [], 0, [], 0⟩,
 ⟨5, 0, false, false, false, 0, 0, strB [], strB [], 0, 0, [], [], [⟨strB [110], 0, 1, strB [116], strB []⟩, ⟨strB [116], 1, 0, strB [], strB []⟩], strB [], 0, [], 0⟩,
 ⟨1, 1, false, false, false, 0, 0, strB [], strB [], 0, 0, [], [], [], strB [], 0, [], 0⟩,
 ⟨11, 0, false, false, false, 0, 0, strB [], strB [], 0, 0, [2, 3], [false, true], [], strB [], 0, [], 0⟩,
 ⟨1, 2, false, false, false, 0, 65535, strB [], strB [], 0, 0, [], [], [], strB [], 0, [], 0⟩,
 ⟨13, 0, false, false, false, 0, 0, strB [110, 97, 109, 101], strB [], 0, 0, [], [], [], strB [], 0, [], 0⟩,
 ⟨6, 0, false, false, false, 0, 0, strB [], strB [107], 1, 0, [6], [], [], strB [], 0, [], 0⟩,
 ⟨12, 0, false, false, false, 0, 0, strB [], strB [], 0, 0, [], [], [], strB [], 0, [], 0⟩,
 ⟨3, 0, false, false, false, 0, 0, strB [97], strB [], 0, 0, [], [], [], strB [], 0, [], 0⟩,
 ⟨9, 0, false, false, false, 0, 0, strB [], strB [], 0, 0, [], [], [], strB [107], 2, [⟨0, 8⟩], 9⟩,
 ⟨1, 4, false, false, false, 0, 4294967295, strB [], strB [], 0, 0, [], [], [], strB [], 0, [], 0⟩,
 ⟨2, 0, false, false, false, 0, 18446744073709551615, strB [], strB [], 0, 0, [], [], [], strB [], 0, [], 0⟩,
 ⟨7, 0, false, false, false, 0, 0, strB [], strB [], 0, 0, [12], [], [], strB [], 0, [], 0⟩,
 ⟨8, 0, false, false, false, 0, 0, strB [], strB [107], 2, 1, [13], [], [], strB [], 0, [], 0⟩,
 ⟨5, 0, false, false, false, 0, 0, strB [], strB [], 0, 0, [], [], [⟨strB [107], 5, 2, strB [113], strB []⟩, ⟨strB [113], 7, 0, strB [], strB []⟩, ⟨strB [114], 10, 0, strB [], strB []⟩, ⟨strB [99], 11, 3, strB [107], strB [113]⟩, ⟨strB [119], 14, 0, strB [], strB []⟩], strB [], 0, [], 0⟩]
def evD : List DT := [⟨strB [110, 97, 109, 101], 4⟩, ⟨strB [109, 97, 105, 110], 15⟩]
def evU : List Tk := [⟨1, 0, [109, 97, 105, 110]⟩, ⟨4, 5, [61]⟩, ⟨1, 7, [117, 56]⟩, ⟨5, 9, []⟩]
def evX : ByteArray := { data := (([110, 97, 109, 101, 32, 61, 32, 99, 104, 97, 105, 110, 32, 123, 32, 123, 32, 110, 58, 32, 117, 56, 32, 49, 46, 46, 54, 51, 32, 61, 32, 115, 105, 122, 101, 40, 116, 41, 59, 32, 116, 58, 32, 98, 121, 116, 101, 115, 91, 110, 93, 59, 32, 125].append [32, 124, 32, 108, 97, 115, 116, 32, 117, 56, 32, 48, 46, 46, 48, 32, 125, 59, 10, 109, 97, 105, 110, 32, 61, 32, 123, 32, 107, 58, 32, 117, 49, 54, 98, 101, 32, 61, 32, 99, 111, 117, 110, 116, 40, 113, 41, 59, 32, 113, 58, 32, 116, 105]).append ([109, 101, 115, 91, 107, 93, 32, 110, 97, 109, 101, 59, 32, 114, 58, 32, 115, 119, 105, 116, 99, 104, 32, 107, 32, 37, 32, 50, 32, 123, 32, 48, 58, 32, 101, 109, 112, 116, 121, 59, 32, 101, 108, 115, 101, 58, 32, 47, 97, 47, 59, 32, 125, 59].append [32, 99, 58, 32, 117, 51, 50, 98, 101, 32, 61, 32, 99, 114, 99, 40, 107, 46, 46, 113, 41, 59, 32, 119, 58, 32, 119, 105, 116, 104, 105, 110, 91, 50, 42, 107, 43, 49, 93, 32, 109, 97, 110, 121, 32, 118, 97, 114, 105, 110, 116, 59, 32, 125, 59])).toArray }
def evY : ByteArray := { data := #[109, 97, 105, 110, 32, 61, 32, 117, 56] }
set_option maxRecDepth 100000 in
theorem ev_scan : scanT evX.data.toList = .ok evT := by kernel_rfl
set_option maxRecDepth 100000 in
theorem ev_scan2 : scanT evY.data.toList = .ok evU := by kernel_rfl
set_option maxRecDepth 100000 in
theorem ev_parse : parseL (stripT evT) = ⟨[(5, [])], evN, evD, 0, 0, 0⟩ := by kernel_rfl
set_option maxRecDepth 100000 in
theorem ev_parse2 : (parseL (stripT evU)).fc = 5 ∧ (parseL (stripT evU)).fi = 1 := ⟨by kernel_rfl, by kernel_rfl⟩
end Go.Proofs.YtfcccfplmdjndaaGreat

/- parse: what the law's fixed texts are, in memory. -/
namespace Go.Proofs.YtfcccfplmdjndaaGreat
set_option linter.unusedSimpArgs false
set_option linter.unusedVariables false
open Go.RowKit

theorem SpecOwn.ok9 {w : World} {base : Nat} {s : SpV} (h : SpecOwn w base s) : SpecOk w (base ≤ ·) s :=
 ⟨h.nn, h.dn, h.n.rw_, h.d.rw_, fun v hv => ⟨(h.each v hv).kn, (h.each v hv).ln, (h.each v hv).fn, (h.each v hv).cn, (h.each v hv).k.rw_, (h.each v hv).l.rw_, (h.each v hv).f.rw_, (h.each v hv).c.rw_⟩⟩
theorem OwnL.blk {w : World} {base : Nat} {T : TypeId} {s : SV} {xs : List Value} (h : OwnL w base T s xs) (hx : xs ≠ []) : ∃ g, s = ⟨some ⟨g, 0, none⟩, s.n, s.n⟩ ∧ base ≤ g ∧ Blk w g T xs := by
 rcases h with ⟨_, h⟩ | h
 ·exact absurd h hx
 ·exact h
def evR : NT := ⟨5, 0, false, false, false, 0, 0, strB [], strB [], 0, 0, [], [], [⟨strB [107], 5, 2, strB [113], strB []⟩, ⟨strB [113], 7, 0, strB [], strB []⟩, ⟨strB [114], 10, 0, strB [], strB []⟩, ⟨strB [99], 11, 3, strB [107], strB [113]⟩, ⟨strB [119], 14, 0, strB [], strB []⟩], strB [], 0, [], 0⟩
def evW : NT := ⟨8, 0, false, false, false, 0, 0, strB [], strB [107], 2, 1, [13], [], [], strB [], 0, [], 0⟩
theorem ev_len : evN.length = 16 := rfl
theorem ev_15 : evN[15]? = some evR := rfl
theorem ev_14 : evN[14]? = some evW := rfl
structure Fx (W : World) (base : Nat) (vs : List NV) (gN gD gF : Nat) (K L C : SV) : Prop where
 own : SpecOwn W base ⟨vs, evD, ⟨some ⟨gN, 0, none⟩, 16, 16⟩, ⟨some ⟨gD, 0, none⟩, 2, 2⟩⟩
 fit : ∀ v ∈ vs, Fits v
 bn : Blk W gN 54 (flatN vs)
 bd : Blk W gD 43 (flatD evD)
 bf : Blk W gF 64 (flatF evR.fs)
 ln : base ≤ gN
 ld : base ≤ gD
 lf : base ≤ gF
 ck : ckS vs evD = 0
 n15 : vs[15]? = some ⟨evR, K, L, ⟨some ⟨gF, 0, none⟩, 5, 5⟩, C⟩
 n14 : ∃ v, vs[14]? = some v ∧ v.t = evW
theorem Fx.keep {W W' : World} {base : Nat} {vs : List NV} {gN gD gF : Nat} {K L C : SV} (h : Fx W base vs gN gD gF K L C) (hb : Below W.heap.size W W') : Fx W' base vs gN gD gF K L C :=
 ⟨h.own.keep9 hb, h.fit, h.bn.keep hb, h.bd.keep hb, h.bf.keep hb, h.ln, h.ld, h.lf, h.ck, h.n15, h.n14⟩
theorem fx_of {w : World} {base : Nat} {s : SpV} (h : SpecOwn w base s) (hd : s.ds = evD) (ht : s.ts = evN) (hf : ∀ v ∈ s.vs, Fits v) (hc : ckS s.vs s.ds = 0) : ∃ vs gN gD gF K L C, s = ⟨vs, evD, ⟨some ⟨gN, 0, none⟩, 16, 16⟩, ⟨some ⟨gD, 0, none⟩, 2, 2⟩⟩ ∧ Fx w base vs gN gD gF K L C := by
 obtain ⟨vs, ds, N, D⟩ := s
 have hd : ds = evD := hd
 subst hd
 have ht : vs.map NV.t = evN := ht
 have hlen : vs.length = 16 := by rw [← ev_len, ← ht, List.length_map]
 have hnn : N.n = 16 := (h.nn).trans hlen
 have hdn : D.n = 2 := h.dn
 obtain ⟨gN, hN, hgN, hBN⟩ := h.n.blk (by
  intro e
  have := congrArg List.length e
  rw [flatN_len, hlen] at this
  simp at this)
 obtain ⟨gD, hD, hgD, hBD⟩ := h.d.blk (by
  intro e
  have := congrArg List.length e
  rw [flatD_len] at this
  exact absurd (show evD.length * 2 = 0 from this) (by decide))
 have hN : N = ⟨some ⟨gN, 0, none⟩, N.n, N.n⟩ := hN
 have hD : D = ⟨some ⟨gD, 0, none⟩, D.n, D.n⟩ := hD
 rw [hnn] at hN
 rw [hdn] at hD
 obtain ⟨v15, hv15, ht15⟩ : ∃ v, vs[15]? = some v ∧ v.t = evR := by
  have := ev_15
  rw [← ht, List.getElem?_map] at this
  cases hv : vs[15]? with
  | none => rw [hv] at this; cases this
  | some v => rw [hv] at this; injection this with this; exact ⟨v, rfl, this⟩
 obtain ⟨v14, hv14, ht14⟩ : ∃ v, vs[14]? = some v ∧ v.t = evW := by
  have := ev_14
  rw [← ht, List.getElem?_map] at this
  cases hv : vs[14]? with
  | none => rw [hv] at this; cases this
  | some v => rw [hv] at this; injection this with this; exact ⟨v, rfl, this⟩
 have hown := h.each v15 (List.mem_of_getElem? hv15)
 have hfn : v15.F.n = 5 := by rw [hown.fn, ht15]; rfl
 obtain ⟨gF, hF, hgF, hBF⟩ := hown.f.blk (by rw [ht15]; intro e; have := congrArg List.length e; rw [flatF_len] at this; exact absurd this (by decide))
 rw [hfn] at hF
 refine ⟨vs, gN, gD, gF, v15.K, v15.L, v15.C, by rw [← hN, ← hD], ?_⟩
 refine ⟨by rw [← hN, ← hD]; exact h, hf, hBN, hBD, by rw [← ht15]; exact hBF, hgN, hgD, hgF, hc, ?_, v14, hv14, ht14⟩
 rw [hv15]
 obtain ⟨t, K, L, F, C⟩ := v15
 have ht15 : t = evR := ht15
 have hF : F = ⟨some ⟨gF, 0, none⟩, 5, 5⟩ := hF
 rw [ht15, hF]
theorem fx_row {w : World} {g : Nat} {vs : List NV} (h : Blk w g 54 (flatN vs)) {j : Nat} {v : NV} (hj : vs[j]? = some v) : w.rangeAt g (j * 18) v.cells := by
 intro i u hu
 obtain ⟨hjl, hjv⟩ := List.getElem?_eq_some_iff.1 hj
 have hi : i < 18 := (List.getElem?_eq_some_iff.1 hu).1
 have := flat_get (f := NV.cells) (m := 18) (fun _ => rfl) vs j i hjl hi
 rw [hjv, hu] at this
 rw [Blk.at h (j * 18 + i)]
 exact this
def FxC (W : World) (gN gD gF : Nat) : Prop := W.cell? ⟨gD, 2, none⟩ = some (.string ⟨#[109, 97, 105, 110]⟩) ∧ W.cell? ⟨gF, 2, none⟩ = some (.int .i64 2) ∧ W.cell? ⟨gF, 19, none⟩ = some (.string ⟨#[113]⟩) ∧ W.cell? ⟨gF, 21, none⟩ = some (.int .i64 14) ∧ W.cell? ⟨gN, 260, none⟩ = some (.string ⟨#[107]⟩) ∧ W.cell? ⟨gN, 261, none⟩ = some (.int .u64 2) ∧ W.cell? ⟨gN, 262, none⟩ = some (.int .u64 1)
theorem Fx.cells {W : World} {base : Nat} {vs : List NV} {gN gD gF : Nat} {K L C : SV} (h : Fx W base vs gN gD gF K L C) : FxC W gN gD gF := by
 obtain ⟨v, hv, ht⟩ := h.n14
 have r := fx_row h.bn hv
 have c0 := r 8 (.string v.t.er) rfl
 have c1 := r 9 (.int .u64 (v.t.mu : Int)) rfl
 have c2 := r 10 (.int .u64 (v.t.ad : Int)) rfl
 rw [ht] at c0 c1 c2
 exact ⟨Blk.at h.bd 2, Blk.at h.bf 2, Blk.at h.bf 19, Blk.at h.bf 21, c0, c1, c2⟩
def Row15 (W : World) (gN gF : Nat) (K L C : SV) : Prop := W.cell? ⟨gN, 270, none⟩ = some (.int .i64 5) ∧ W.cell? ⟨gN, 271, none⟩ = some (.int .i64 0) ∧ W.cell? ⟨gN, 272, none⟩ = some (.bool false) ∧ W.cell? ⟨gN, 273, none⟩ = some (.bool false) ∧ W.cell? ⟨gN, 274, none⟩ = some (.bool false) ∧ W.cell? ⟨gN, 275, none⟩ = some (.int .u64 0) ∧ W.cell? ⟨gN, 276, none⟩ = some (.int .u64 0) ∧ W.cell? ⟨gN, 277, none⟩ = some (.string ⟨#[]⟩) ∧ W.cell? ⟨gN, 278, none⟩ = some (.string ⟨#[]⟩) ∧ W.cell? ⟨gN, 279, none⟩ = some (.int .u64 0) ∧ W.cell? ⟨gN, 280, none⟩ = some (.int .u64 0) ∧ W.cell? ⟨gN, 281, none⟩ = some (.slice K.A K.n K.c) ∧ W.cell? ⟨gN, 282, none⟩ = some (.slice L.A L.n L.c) ∧ W.cell? ⟨gN, 283, none⟩ = some (.slice (some ⟨gF, 0, none⟩) 5 5) ∧ W.cell? ⟨gN, 284, none⟩ = some (.string ⟨#[]⟩) ∧ W.cell? ⟨gN, 285, none⟩ = some (.int .u64 0) ∧ W.cell? ⟨gN, 286, none⟩ = some (.slice C.A C.n C.c) ∧ W.cell? ⟨gN, 287, none⟩ = some (.int .i64 0)
theorem Fx.row {W : World} {base : Nat} {vs : List NV} {gN gD gF : Nat} {K L C : SV} (h : Fx W base vs gN gD gF K L C) : Row15 W gN gF K L C := by
 have r := fx_row h.bn h.n15
 exact ⟨r 0 _ rfl, r 1 _ rfl, r 2 _ rfl, r 3 _ rfl, r 4 _ rfl, r 5 _ rfl, r 6 _ rfl, r 7 _ rfl, r 8 _ rfl, r 9 _ rfl, r 10 _ rfl, r 11 _ rfl, r 12 _ rfl, r 13 _ rfl, r 14 _ rfl, r 15 _ rfl, r 16 _ rfl, r 17 _ rfl⟩
def row15 (gF : Nat) (K L C : SV) : List Value := [.int .i64 5, .int .i64 0, .bool false, .bool false, .bool false, .int .u64 0, .int .u64 0, .string ⟨#[]⟩, .string ⟨#[]⟩, .int .u64 0, .int .u64 0, .slice K.A K.n K.c, .slice L.A L.n L.c, .slice (some ⟨gF, 0, none⟩) 5 5, .string ⟨#[]⟩, .int .u64 0, .slice C.A C.n C.c, .int .i64 0]
set_option maxRecDepth 100000 in
theorem parse_x (w : World) : Calls Tryz.prog 8 #[.string evX] w fun e w' => Below w.heap.size w w' ∧ ∃ vs gN gD gF K L C, e = .returned (.tuple #[.agg #[.slice (some ⟨gN, 0, none⟩) 16 16, .slice (some ⟨gD, 0, none⟩) 2 2], .agg #[.int .i64 0, .int .i64 0]]) ∧ Fx w' w.heap.size vs gN gD gF K L C := by
 refine (parse_ever evX w).mono ?_
 rintro e w' ⟨hb, h⟩
 rw [ev_scan] at h
 simp only [ev_parse] at h
 rw [if_neg (by decide)] at h
 obtain ⟨s', rfl, h1, h2, h3, h4, _, _, _, h5, _⟩ := h
 obtain ⟨vs, gN, gD, gF, K, L, C, rfl, hx⟩ := fx_of h3 h1 h2 h4 h5
 exact ⟨hb, vs, gN, gD, gF, K, L, C, rfl, hx⟩
theorem parse_y (w : World) : Calls Tryz.prog 8 #[.string evY] w fun e w' => Below w.heap.size w w' ∧ e = .returned (.tuple #[.agg #[.slice none 0 0, .slice none 0 0], .agg #[.int .i64 5, .int .i64 9]]) := by
 refine (parse_ever evY w).mono ?_
 rintro e w' ⟨hb, h⟩
 rw [ev_scan2] at h
 obtain ⟨e1, e2⟩ := ev_parse2
 simp only [e1, e2] at h
 rw [if_pos (by decide)] at h
 exact ⟨hb, h⟩
theorem al2_below (w : World) (o o' : Obj) : Below w.heap.size w ((w.alloc o).alloc o') := ((Below.refl _ _).alloc (Nat.le_refl _) o).alloc (by simp) o'
theorem box_sf (W : World) (a b : Value) (c p : Int) : Below W.heap.size W ((W.alloc (.cells #[a, b] 32)).alloc (.cells #[.int .i64 c, .int .i64 p] 26)) ∧ Blk ((W.alloc (.cells #[a, b] 32)).alloc (.cells #[.int .i64 c, .int .i64 p] 26)) W.heap.size 32 [a, b] ∧ Blk ((W.alloc (.cells #[a, b] 32)).alloc (.cells #[.int .i64 c, .int .i64 p] 26)) (W.heap.size + 1) 26 [.int .i64 c, .int .i64 p] := by
 have h3 : Blk ((W.alloc (.cells #[a, b] 32)).alloc (.cells #[.int .i64 c, .int .i64 p] 26)) (W.alloc (.cells #[a, b] 32)).heap.size 26 [.int .i64 c, .int .i64 p] := heap_alloc_new _ _
 rw [World.size_alloc] at h3
 refine ⟨al2_below _ _ _, ?_, h3⟩
 exact (Below.heap_alloc _ _ _ (by simp)).trans (heap_alloc_new W _)
end Go.Proofs.YtfcccfplmdjndaaGreat
