/-
  A text's lines stay below its length; what lines ahead of a text do to its tree, and to what is wrong.
  The law's own known(), walked: it answers true.
-/
import Derived.Test.YtemmdbjcllcelaaDoorPaAP
import Derived.Test.YtemmdbjcllcelaaDoorPaDS
import Derived.Test.YtemmdbjcllcelaaDoorTnDown
namespace Go.Proofs.YtemmdbjcllcelaaDoor.Tk

structure Lw (M : Nat) (σ : St) : Prop where
  h : σ.line + σ.l.length ≤ M
  o : ∀ t ∈ σ.out, t.line ≤ M
def Res.low (M : Nat) : Res → Prop
  | .ok o => ∀ t ∈ o, t.line ≤ M
  | .bad l _ _ => l ≤ M
def OutLow (M : Nat) : St ⊕ Res → Prop
  | .inl s => Lw M s
  | .inr r => r.low M
theorem Lw.line {M : Nat} {σ : St} (h : Lw M σ) : σ.line ≤ M := Nat.le_trans (Nat.le_add_right _ _) h.h
theorem push_low {M : Nat} {σ : St} (h : Lw M σ) (kind : Nat) (text : List UInt8) (n used : Nat) : OutLow M (push σ kind text n used) := by
  unfold push
  by_cases hf : σ.out.length = 4000
  · rw [if_pos hf]; exact h.line
  · rw [if_neg hf]
    refine ⟨?_, fun t ht => ?_⟩
    · have := h.h; simp only [List.length_drop]; omega
    · rcases List.mem_append.1 ht with ht | ht
      · exact h.o t ht
      · obtain rfl := List.mem_singleton.1 ht
        exact h.line
theorem step_low {M : Nat} {σ : St} (h : Lw M σ) : OutLow M (step σ) := by
  unfold step
  cases hσ : σ.l with
  | nil =>
    simp only
    by_cases he : lastEnds σ.out = true
    · rw [if_pos he]; exact push_low h 1 [59] 0 0
    · rw [if_neg he]
      by_cases hf : σ.out.length = 4000
      · rw [if_pos hf]; exact h.line
      · rw [if_neg hf]
        intro t ht
        rcases List.mem_append.1 ht with ht | ht
        · exact h.o t ht
        · obtain rfl := List.mem_singleton.1 ht
          exact h.line
  | cons b r =>
    have hb := h.h
    rw [hσ, List.length_cons] at hb
    simp only
    by_cases h1 : b = 10
    · rw [if_pos h1]
      by_cases he : lastEnds σ.out = true
      · rw [if_pos he]; exact push_low h 1 [59] 0 0
      · rw [if_neg he]; exact ⟨show σ.line + 1 + r.length ≤ M by omega, h.o⟩
    · rw [if_neg h1]
      by_cases h2 : b = 32 ∨ b = 9 ∨ b = 13
      · rw [if_pos h2]; exact ⟨show σ.line + r.length ≤ M by omega, h.o⟩
      · rw [if_neg h2]
        by_cases h3 : [47, 47].isPrefixOf (b :: r) = true
        · rw [if_pos h3]; exact ⟨by simp only [List.length_drop, List.length_cons]; omega, h.o⟩
        · rw [if_neg h3]
          cases one (b :: r) with
          | err e => exact h.line
          | tok kind text n used => exact push_low h kind text n used
theorem runN_low {M : Nat} : ∀ (n : Nat) (σ : St) (r : Res), Lw M σ → runN n σ = some r → r.low M
  | 0, _, _, _, h => by cases h
  | n + 1, σ, r, h, e => by
    have hs := step_low h
    simp only [runN] at e
    cases hc : step σ with
    | inl s => rw [hc] at hs e; exact runN_low n s r hs e
    | inr q => rw [hc] at hs e; cases e; exact hs
theorem Lex.low {T : List UInt8} {r : Res} (h : Lex ⟨T, 1, 1, []⟩ r) : r.low (1 + T.length) := by
  obtain ⟨n, hn⟩ := h
  exact runN_low n _ r ⟨Nat.le_refl _, fun t ht => by cases ht⟩ hn
theorem LexAll.det {T : List UInt8} {r r' : Res} (h : LexAll T r) (h' : LexAll T r') : r = r' := by
  unfold LexAll at h h'
  split at h
  · rename_i hl
    rw [if_pos hl] at h'
    rw [h, h']
  · rename_i hl
    rw [if_neg hl] at h'
    exact h.det h'
/-- Lines ahead of a text: too long now, or the same, so many lines down. -/
theorem LexAll.lines {T : List UInt8} {k : Nat} {r r' : Res} (h : LexAll T r) (h' : LexAll (List.replicate k 10 ++ T) r') : r' = .bad 1 1 6 ∨ (r' = r.down k ∧ r.low 16385) := by
  unfold LexAll at h h'
  have hl : (List.replicate k (10 : UInt8) ++ T).length = k + T.length := by rw [List.length_append, List.length_replicate]
  by_cases h1 : 16384 < k + T.length
  · rw [hl, if_pos h1] at h'
    exact .inl h'
  · rw [hl, if_neg h1] at h'
    rw [if_neg (by omega)] at h
    refine .inr ⟨h'.det (h.lines k), ?_⟩
    have := h.low
    revert this
    cases r with
    | ok o => exact fun q t ht => Nat.le_trans (q t ht) (by omega)
    | bad l c e => exact fun q => Nat.le_trans q (by omega)
end Go.Proofs.YtemmdbjcllcelaaDoor.Tk
namespace Go.Proofs.YtemmdbjcllcelaaDoor.Pa
open Go.RowKit
open Go.Proofs.YtemmdbjcllcelaaDoor.Tk (Tok LexAll)
theorem RsDn.okok {k : Nat → Nat} {q : Bool} {a b : Rs} (h : RsDn k q a b) : q = false → (∃ t u l, a = .ok t l ∧ b = .ok u (l.map (dn k)) ∧ Td k t u) ∨ (∃ x y c, a = .bad x y c ∧ b = .bad (k x) y c) ∨ (a = .dry ∧ b = .dry) := by
  cases h with
  | ok t u l h => exact fun _ => .inl ⟨t, u, l, rfl, rfl, h⟩
  | row => exact fun e => by cases e
  | bad q x y c => exact fun _ => .inr (.inl ⟨x, y, c, rfl, rfl⟩)
  | dry => exact fun _ => .inr (.inr ⟨rfl, rfl⟩)
theorem file_dn (k : Nat → Nat) (n : Nat) (l : List Tok) : (∃ t u r, run n .file 0 l = .ok t r ∧ run n .file 0 (l.map (dn k)) = .ok u (r.map (dn k)) ∧ Td k t u) ∨ (∃ x y c, run n .file 0 l = .bad x y c ∧ run n .file 0 (l.map (dn k)) = .bad (k x) y c) ∨ (run n .file 0 l = .dry ∧ run n .file 0 (l.map (dn k)) = .dry) :=
  (run_dn n (k := k) (RuDn.same .file rfl) 0 l).okok rfl
theorem dn_low {B : Nat} {l : List Tok} (h : ∀ t ∈ l, t.line ≤ B) : l.map (dn (fun x => min x B)) = l := by
  refine (List.map_congr_left (g := id) fun t ht => ?_).trans (List.map_id l)
  have := h t ht
  show ({ t with line := min t.line B } : Tok) = t
  rw [Nat.min_eq_left this]
theorem ok_low {B n : Nat} {l : List Tok} {t : Nd} {r : List Tok} (h : ∀ t ∈ l, t.line ≤ B) (e : run n .file 0 l = .ok t r) : Low_ B t := by
  have := file_dn (fun x => min x B) n l
  rw [dn_low h, e] at this
  rcases this with ⟨a, b, c, h1, h2, h3⟩ | ⟨a, b, c, h1, h2⟩ | ⟨h1, h2⟩
  · cases h1; injection h2 with h2 _; subst h2; exact h3
  · cases h1
  · cases h1
theorem bad_low {B n x y c : Nat} {l : List Tok} (h : ∀ t ∈ l, t.line ≤ B) (e : run n .file 0 l = .bad x y c) : x ≤ B := by
  have := file_dn (fun x => min x B) n l
  rw [dn_low h, e] at this
  rcases this with ⟨a, b, c, h1, h2, h3⟩ | ⟨a, b, c, h1, h2⟩ | ⟨h1, h2⟩
  · cases h1
  · cases h1
    injection h2 with h2 _
    have : x = min x B := h2
    omega
  · cases h1
/-- What Parse says of a text: wrong there, with that number. -/
def Bad (T : List UInt8) (line col c : Nat) : Prop := LexAll T (.bad line col c) ∨ ∃ toks n, LexAll T (.ok toks) ∧ run n .file 0 toks = .bad line col c
/-- .. or this tree. -/
def Good (T : List UInt8) (t : Nd) : Prop := ∃ toks n r, LexAll T (.ok toks) ∧ run n .file 0 toks = .ok t r
theorem run_det {n m : Nat} {l : List Tok} {x y : Rs} (h : run n .file 0 l = x) (hx : x ≠ .dry) (h' : run m .file 0 l = y) (hy : y ≠ .dry) : x = y := Says.det ⟨hx, n, h⟩ ⟨hy, m, h'⟩
theorem down_dn_eq (k : Nat) (l : List Tok) : l.map (Tk.down k) = l.map (dn (fun x => x + k)) := rfl
theorem bad_bad {T : List UInt8} {k l c e l' c' e' : Nat} (h : Bad T l c e) (h' : Bad (List.replicate k 10 ++ T) l' c' e') : e' = 6 ∨ (e' = e ∧ l' = l + k ∧ c' = c ∧ l ≤ 16385) := by
  rcases h with h | ⟨toks, n, h, hr⟩
  · rcases h' with h' | ⟨toks', n', h', hr'⟩
    · rcases h.lines h' with q | ⟨q, hl⟩
      · cases q; exact .inl rfl
      · cases q; exact .inr ⟨rfl, rfl, rfl, hl⟩
    · rcases h.lines h' with q | ⟨q, hl⟩
      · cases q
      · cases q
  · rcases h' with h' | ⟨toks', n', h', hr'⟩
    · rcases h.lines h' with q | ⟨q, hl⟩
      · cases q; exact .inl rfl
      · cases q
    · rcases h.lines h' with q | ⟨q, hl⟩
      · cases q
      · obtain rfl : toks' = toks.map (Tk.down k) := by injection q
        rw [down_dn_eq] at hr'
        have hb := bad_low hl hr
        rcases file_dn (fun x => x + k) n toks with ⟨a, b, c, h1, h2, h3⟩ | ⟨a, b, c, h1, h2⟩ | ⟨h1, h2⟩
        · rw [hr] at h1; cases h1
        · rw [hr] at h1
          cases h1
          have := run_det h2 (by simp) hr' (by simp)
          cases this
          exact .inr ⟨rfl, rfl, rfl, hb⟩
        · rw [hr] at h1; cases h1
theorem good_bad {T : List UInt8} {k l' c' e' : Nat} {t : Nd} (h : Good T t) (h' : Bad (List.replicate k 10 ++ T) l' c' e') : e' = 6 := by
  obtain ⟨toks, n, r, h, hr⟩ := h
  rcases h' with h' | ⟨toks', n', h', hr'⟩
  · rcases h.lines h' with q | ⟨q, hl⟩
    · cases q; rfl
    · cases q
  · rcases h.lines h' with q | ⟨q, hl⟩
    · cases q
    · obtain rfl : toks' = toks.map (Tk.down k) := by injection q
      rw [down_dn_eq] at hr'
      rcases file_dn (fun x => x + k) n toks with ⟨a, b, c, h1, h2, h3⟩ | ⟨a, b, c, h1, h2⟩ | ⟨h1, h2⟩
      · cases run_det h2 (by simp) hr' (by simp)
      · rw [hr] at h1; cases h1
      · rw [hr] at h1; cases h1
theorem bad_good {T : List UInt8} {k l c e : Nat} {u : Nd} (h : Bad T l c e) (h' : Good (List.replicate k 10 ++ T) u) : False := by
  obtain ⟨toks', n', r', h', hr'⟩ := h'
  rcases h with h | ⟨toks, n, h, hr⟩
  · rcases h.lines h' with q | ⟨q, hl⟩
    · cases q
    · cases q
  · rcases h.lines h' with q | ⟨q, hl⟩
    · cases q
    · obtain rfl : toks' = toks.map (Tk.down k) := by injection q
      rw [down_dn_eq] at hr'
      rcases file_dn (fun x => x + k) n toks with ⟨a, b, c, h1, h2, h3⟩ | ⟨a, b, c, h1, h2⟩ | ⟨h1, h2⟩
      · rw [hr] at h1; cases h1
      · cases run_det h2 (by simp) hr' (by simp)
      · rw [hr] at h1; cases h1
theorem good_good {T : List UInt8} {k : Nat} {t u : Nd} (h : Good T t) (h' : Good (List.replicate k 10 ++ T) u) : Tw k 16385 t u := by
  obtain ⟨toks, n, r, h, hr⟩ := h
  obtain ⟨toks', n', r', h', hr'⟩ := h'
  rcases h.lines h' with q | ⟨q, hl⟩
  · cases q
  · obtain rfl : toks' = toks.map (Tk.down k) := by injection q
    rw [down_dn_eq] at hr'
    rcases file_dn (fun x => x + k) n toks with ⟨a, b, c, h1, h2, h3⟩ | ⟨a, b, c, h1, h2⟩ | ⟨h1, h2⟩
    · rw [hr] at h1
      cases h1
      cases run_det h2 (by simp) hr' (by simp)
      exact ⟨h3, ok_low hl hr⟩
    · rw [hr] at h1; cases h1
    · rw [hr] at h1; cases h1
/-- What Parse answers, shortly. -/
theorem ParseDone.short {w w' : World} {T : List UInt8} {e : Ending} (h : ParseDone w T e w') : Up w w' ∧
    ((∃ line col c, c ≠ 0 ∧ Bad T line col c ∧ e = .returned (.tuple #[.agg (n6 0 [] 0 0 0 (.slice none 0 0)), .agg #[.int .i64 line, .int .i64 col], .int .i64 c])) ∨
     (∃ t cs, Good T t ∧ e = .returned (.tuple #[.agg cs.toArray, .agg #[.int .i64 0, .int .i64 0], .int .i64 0]) ∧ NdC w' (fun b => w.heap.size ≤ b) t cs)) := by
  obtain ⟨hu, R, hR, hm⟩ := h
  refine ⟨hu, ?_⟩
  cases R with
  | bad line col c => exact .inl ⟨line, col, c, by have := hm.1; omega, .inl hR, hm.2⟩
  | ok toks =>
    obtain ⟨n, hm⟩ := hm
    cases hr : run n .file 0 toks with
    | ok t r =>
      rw [hr] at hm
      obtain ⟨cs, e1, h1⟩ := hm
      exact .inr ⟨t, cs, ⟨toks, n, r, hR, hr⟩, e1, h1⟩
    | bad line col c => rw [hr] at hm; exact .inl ⟨line, col, c, hm.1, .inr ⟨toks, n, hR, hr⟩, hm.2⟩
    | dry => rw [hr] at hm; exact hm.elim
/-- A node and a place in blocks of their own. -/
abbrev two (w : World) (v0 v1 v2 v3 v4 v5 l c : Value) : World := (w.alloc (.cells #[v0, v1, v2, v3, v4, v5] 27)).alloc (.cells #[l, c] 29)
theorem two_facts (w : World) (v0 v1 v2 v3 v4 v5 l c : Value) : Up w (two w v0 v1 v2 v3 v4 v5 l c) ∧ (two w v0 v1 v2 v3 v4 v5 l c).heap[w.heap.size]? = some (.cells #[v0, v1, v2, v3, v4, v5] 27 (0, 0)) ∧
    (two w v0 v1 v2 v3 v4 v5 l c).heap[w.heap.size + 1]? = some (.cells #[l, c] 29 (0, 0)) :=
  ⟨((Fr.refl _ _).alloc _).alloc _, (Below.heap_alloc _ _ _ (by simp)).trans (heap_alloc_new w _), by have := heap_alloc_new (w.alloc (.cells #[v0, v1, v2, v3, v4, v5] 27)) (.cells #[l, c] 29); rwa [World.size_alloc] at this⟩
end Go.Proofs.YtemmdbjcllcelaaDoor.Pa
namespace Go.Proofs.YtemmdbjcllcelaaDoor.Pa
open Go.RowKit
open Go.Proofs.YtemmdbjcllcelaaDoor.Tk (Laid bs Tok LexAll)
set_option maxRecDepth 100000

/-- A node's child: where it lies. -/
theorem NdC.kid {w : World} {G : Nat → Prop} {k n l c len cap : Nat} {m : List UInt8} {ks : List Nd} {A : Option Addr} {v0 v1 v2 v3 v4 : Value} (h : NdC w G (.mk k m n l c ks) [v0, v1, v2, v3, v4, .slice A len cap]) (i : Nat) (x : Nd) (hx : ks[i]? = some x) (hn : ks.length = len) (z : Int) (hz : z = i) :
    ∃ b p, (∀ w', (Instr.indexAt 25 (.slice A len cap) (.int .i64 z)).run Tryd.prog w' = .ok (.pointer (some ⟨b, p, none⟩)) w') ∧ ∃ cs, NdC w G x cs ∧ ∀ j u, cs[j]? = some u → w.cell? ⟨b, p + j, none⟩ = some u := by
  obtain ⟨A2, c2, e, hk⟩ := h.row
  injection e with _ e; injection e with _ e; injection e with _ e; injection e with _ e; injection e with _ e; injection e with e _
  injection e with e1 e2 e3
  subst e1 e3 hn hz
  have hi : i < ks.length := (List.getElem?_eq_some_iff.1 hx).1
  obtain ⟨b, o, rfl, -, -, hall⟩ := hk.at_ (fun e => by rw [e] at hi; simp at hi)
  obtain ⟨cs, h1, h2, h3⟩ := hall i x hx
  refine ⟨b, o + i * 6, fun w' => ?_, cs, h1, h3⟩
  rw [run_indexAt_slice (h := by kernel_rfl), if_pos ⟨Int.natCast_nonneg i, by omega⟩, show (sizeOf (Tryd.prog.elem 25)).run Tryd.prog w' = .ok 6 w' from by kernel_rfl]
  simp [Result.andThen, Addr.add]

def kn1 : List UInt8 := [102, 117, 110, 99, 32, 109, 97, 105, 110, 40, 41, 32, 123, 32, 112, 114, 105, 110, 116, 40, 49, 32, 43, 32, 50, 32, 42, 32, 120, 41, 32, 125]
def kn2 : List UInt8 := [102, 117, 110, 99, 32, 109, 97, 105, 110, 40, 41, 32, 123, 32, 120, 32, 61, 32, 125]
def ntok : List Tok := [⟨3, [102, 117, 110, 99], 0, 1, 1⟩, ⟨2, [109, 97, 105, 110], 0, 1, 6⟩, ⟨6, [40], 0, 1, 10⟩, ⟨6, [41], 0, 1, 11⟩, ⟨6, [123], 0, 1, 13⟩, ⟨3, [112, 114, 105, 110, 116], 0, 1, 15⟩, ⟨6, [40], 0, 1, 20⟩, ⟨4, [49], 1, 1, 21⟩, ⟨6, [43], 0, 1, 23⟩, ⟨4, [50], 2, 1, 25⟩,
  ⟨6, [42], 0, 1, 27⟩, ⟨2, [120], 0, 1, 29⟩, ⟨6, [41], 0, 1, 30⟩, ⟨6, [125], 0, 1, 32⟩, ⟨1, [59], 0, 1, 33⟩, ⟨0, [], 0, 1, 33⟩]
def ntok2 : List Tok := [⟨3, [102, 117, 110, 99], 0, 1, 1⟩, ⟨2, [109, 97, 105, 110], 0, 1, 6⟩, ⟨6, [40], 0, 1, 10⟩, ⟨6, [41], 0, 1, 11⟩, ⟨6, [123], 0, 1, 13⟩, ⟨2, [120], 0, 1, 15⟩, ⟨6, [61], 0, 1, 17⟩, ⟨6, [125], 0, 1, 19⟩, ⟨1, [59], 0, 1, 20⟩, ⟨0, [], 0, 1, 20⟩]
abbrev nTimes : Nd := .mk 28 [42] 0 1 27 [.mk 21 [] 2 1 25 [], .mk 26 [120] 0 1 29 []]
abbrev nPlus : Nd := .mk 28 [43] 0 1 23 [.mk 21 [] 1 1 21 [], nTimes]
abbrev nPrint : Nd := .mk 20 [] 0 1 15 [nPlus]
abbrev nBlock : Nd := .mk 10 [] 0 1 13 [nPrint]
abbrev nFunc : Nd := .mk 6 [109, 97, 105, 110] 0 1 1 [none_, none_, nBlock]
abbrev nFile : Nd := .mk 1 [] 0 1 1 [nFunc]
theorem kn1_lex : LexAll kn1 (.ok ntok) := by
  unfold LexAll
  rw [if_neg (by decide)]
  exact ⟨60, by kernel_rfl⟩
theorem kn2_lex : LexAll kn2 (.ok ntok2) := by
  unfold LexAll
  rw [if_neg (by decide)]
  exact ⟨60, by kernel_rfl⟩
theorem kn1_run : run 40 .file 0 ntok = .ok nFile [⟨0, [], 0, 1, 33⟩] := by kernel_rfl
theorem kn2_run : run 40 .file 0 ntok2 = .bad 1 19 13 := by kernel_rfl
theorem kn1_says {w w' : World} {e : Ending} (h : ParseDone w kn1 e w') : Up w w' ∧ ∃ A cap, e = .returned (.tuple #[.agg #[.int .i64 1, .string (bs []), .int .i64 0, .int .i64 1, .int .i64 1, .slice A 1 cap], .agg #[.int .i64 0, .int .i64 0], .int .i64 0]) ∧
    NdC w' (fun _ => True) nFile [.int .i64 1, .string (bs []), .int .i64 0, .int .i64 1, .int .i64 1, .slice A 1 cap] := by
  obtain ⟨hu, h⟩ := h.short
  refine ⟨hu, ?_⟩
  rcases h with ⟨l, c, e, h0, hb, rfl⟩ | ⟨t, cs, ⟨toks, n, r, hl, hr⟩, rfl, hn⟩
  · rcases hb with hb | ⟨toks, n, hl, hr⟩
    · cases hb.det kn1_lex
    · cases hl.det kn1_lex
      cases run_det hr (by simp) kn1_run (by simp)
  · cases hl.det kn1_lex
    cases run_det hr (by simp) kn1_run (by simp)
    obtain ⟨A, cap, rfl, -⟩ := hn.row
    exact ⟨A, cap, rfl, hn.kept (Fr.refl (fun _ => False) _) (fun _ _ e => e) (fun _ _ => True.intro)⟩
theorem kn2_says {w w' : World} {e : Ending} (h : ParseDone w kn2 e w') : Up w w' ∧ e = .returned (.tuple #[.agg #[.int .i64 0, .string (bs []), .int .i64 0, .int .i64 0, .int .i64 0, .slice none 0 0], .agg #[.int .i64 1, .int .i64 19], .int .i64 13]) := by
  obtain ⟨hu, h⟩ := h.short
  refine ⟨hu, ?_⟩
  rcases h with ⟨l, c, e, h0, hb, rfl⟩ | ⟨t, cs, ⟨toks, n, r, hl, hr⟩, rfl, hn⟩
  · rcases hb with hb | ⟨toks, n, hl, hr⟩
    · cases hb.det kn2_lex
    · cases hl.det kn2_lex
      cases run_det hr (by simp) kn2_run (by simp)
      rfl
  · cases hl.det kn2_lex
    cases run_det hr (by simp) kn2_run (by simp)

set_option maxHeartbeats 8000000 in
theorem known_walk {w : World} (L : Laid w) (hw : 2 + 1 ≤ w.heap.size) : Calls Tryd.prog 8 #[] w fun e w' => e = .returned (.bool true) ∧ Up w w' := by
  have LL := Lib.hid L
  have HW := Lib.hid hw
  clear L hw
  go_enter Tryd.func8, Tryd.ntmps8
  go_wp2_with fail
  refine (parse_any kn1 LL.out HW.out).mono ?_
  rintro e w1 hd
  obtain ⟨u1, A0, c0, rfl, hn⟩ := kn1_says hd
  have U1 := Lib.hid u1
  have N1 := Lib.hid hn
  clear hd u1 hn
  go_wp2_with fail
  obtain ⟨v2, b1, b2⟩ := two_facts w1 (.int .i64 1) (.string (bs [])) (.int .i64 0) (.int .i64 1) (.int .i64 1) (.slice A0 1 c0) (.int .i64 0) (.int .i64 0)
  have V2 := Lib.hid v2
  have B1 := Lib.hid b1
  have U2 := Lib.hid (Fr.trans U1.out v2 (fun _ _ e => e))
  clear v2 b1 b2
  change Calls _ _ _ (two w1 (.int .i64 1) (.string (bs [])) (.int .i64 0) (.int .i64 1) (.int .i64 1) (.slice A0 1 c0) (.int .i64 0) (.int .i64 0)) _
  generalize two w1 (.int .i64 1) (.string (bs [])) (.int .i64 0) (.int .i64 1) (.int .i64 1) (.slice A0 1 c0) (.int .i64 0) (.int .i64 0) = w2 at *
  obtain ⟨qa, eqa⟩ : ∃ q, q = w1.heap.size := ⟨_, rfl⟩
  rw [← eqa] at B1 ⊢
  clear eqa
  refine (parse_any kn2 (LL.out.kept U2.out (fun h => h) (fun h => h)) (Nat.le_trans HW.out U2.out.size)).mono ?_
  rintro e w3 hd
  obtain ⟨u3, rfl⟩ := kn2_says hd
  have U3 := Lib.hid (Fr.trans U2.out u3 (fun _ _ e => e))
  have V3 := Lib.hid (Fr.trans V2.out u3 (fun _ _ e => e))
  have C1 := Lib.hid ((u3.block qa (heap_lt B1.out) (fun e => e)).trans B1.out)
  clear hd u3 B1
  obtain ⟨v4, b1, b2⟩ := two_facts w3 (.int .i64 0) (.string (bs [])) (.int .i64 0) (.int .i64 0) (.int .i64 0) (.slice none 0 0) (.int .i64 1) (.int .i64 19)
  have n4 := N1.out.kept (Fr.trans V3.out v4 (fun _ _ e => e)) (fun _ _ e => e) (G' := fun _ => True) (fun _ _ => True.intro)
  have c1 := (v4.block qa (heap_lt C1.out) (fun e => e)).trans C1.out
  have U4 := Lib.hid (Fr.trans U3.out v4 (fun _ _ e => e))
  have B2 := Lib.hid b2
  obtain ⟨w4, hw4⟩ : ∃ w4, w4 = two w3 (.int .i64 0) (.string (bs [])) (.int .i64 0) (.int .i64 0) (.int .i64 0) (.slice none 0 0) (.int .i64 1) (.int .i64 19) := ⟨_, rfl⟩
  rw [← hw4] at n4 c1 U4 B2
  obtain ⟨bf, pf, if_, cf, nf, ef⟩ := n4.kid 0 nFunc rfl rfl 0 rfl
  obtain ⟨Af, kf, rfl, -⟩ := nf.row
  obtain ⟨bb, pb, ib, cb, nb, eb⟩ := nf.kid 2 nBlock rfl rfl 2 rfl
  obtain ⟨Ab, kb, rfl, -⟩ := nb.row
  obtain ⟨bp, pp, ip, cp, np, ep⟩ := nb.kid 0 nPrint rfl rfl 0 rfl
  obtain ⟨Ap, kp, rfl, -⟩ := np.row
  obtain ⟨bx, px, ix, cx, nx, ex⟩ := np.kid 0 nPlus rfl rfl 0 rfl
  obtain ⟨Ax, kx, rfl, -⟩ := nx.row
  obtain ⟨bt, pt, it, ct, nt, et⟩ := nx.kid 1 nTimes rfl rfl 1 rfl
  obtain ⟨At, kt, rfl, -⟩ := nt.row
  have f5 := ef 5 (.slice Af 3 kf) rfl
  have g5 := eb 5 (.slice Ab 1 kb) rfl
  have p5 := ep 5 (.slice Ap 1 kp) rfl
  have x0 := ex 0 (.int .i64 28) rfl
  have x1 := ex 1 (.string ⟨#[43]⟩) rfl
  have x2 := ex 2 (.int .i64 0) rfl
  have x3 := ex 3 (.int .i64 1) rfl
  have x4 := ex 4 (.int .i64 23) rfl
  have x5 := ex 5 (.slice Ax 2 kx) rfl
  have t1 := et 1 (.string ⟨#[42]⟩) rfl
  rw [Nat.add_zero] at x0
  obtain ⟨y0, y1, y2, y3, y4, y5⟩ := cells6 c1
  have T1 := Lib.hid t1
  have B4 := Lib.hid B2.out
  have lf : ∀ w', (Instr.indexAt 25 (.slice Af 3 kf) (.int .i64 2)).run Tryd.prog w' = .ok (.pointer (some ⟨bb, pb, none⟩)) w' := ib
  have lt : ∀ w', (Instr.indexAt 25 (.slice Ax 2 kx) (.int .i64 1)).run Tryd.prog w' = .ok (.pointer (some ⟨bt, pt, none⟩)) w' := it
  have lb : ∀ w', (Instr.indexAt 25 (.slice Ab 1 kb) (.int .i64 0)).run Tryd.prog w' = .ok (.pointer (some ⟨bp, pp, none⟩)) w' := ip
  have lp : ∀ w', (Instr.indexAt 25 (.slice Ap 1 kp) (.int .i64 0)).run Tryd.prog w' = .ok (.pointer (some ⟨bx, px, none⟩)) w' := ix
  clear n4 nf nb np nx nt ef eb ep ex et c1 t1 ib it ip ix v4 b1 b2 B2 C1
  unfold two at hw4
  go_upto_region 3 with fail
  rw [← hw4]
  clear hw4
  go_upto_region 6 with fail
  have v5 : Up w4 (w4.alloc (.cells #[.int .i64 28, .string ⟨#[43]⟩, .int .i64 0, .int .i64 1, .int .i64 23, .slice Ax 2 kx] 27)) := (Fr.refl _ _).alloc _
  have b7 := heap_alloc_new w4 (.cells #[.int .i64 28, .string ⟨#[43]⟩, .int .i64 0, .int .i64 1, .int .i64 23, .slice Ax 2 kx] 27)
  have tt := (v5.cell (p := ⟨bt, pt + 1, none⟩) (World.block_lt_of_cell? w4 _ T1.out) (fun e => e)).trans T1.out
  have bb4 := (v5.block (w3.heap.size + 1) (heap_lt B4.out) (fun e => e)).trans B4.out
  have U5 := Lib.hid (Fr.trans U4.out v5 (fun _ _ e => e))
  clear f5 g5 p5 x0 x1 x2 x3 x4 x5 y0 y1 y2 y3 y4 y5 if_ lf lb lp v5
  generalize w4.alloc (.cells #[.int .i64 28, .string ⟨#[43]⟩, .int .i64 0, .int .i64 1, .int .i64 23, .slice Ax 2 kx] 27) = w5 at *
  obtain ⟨y0, y1, y2, y3, y4, y5⟩ := cells6 b7
  obtain ⟨z0, z1, z2, z3⟩ := cells2 bb4
  go_wp2_with fail
  go_ret
  exact ⟨rfl, U5.out⟩
end Go.Proofs.YtemmdbjcllcelaaDoor.Pa
