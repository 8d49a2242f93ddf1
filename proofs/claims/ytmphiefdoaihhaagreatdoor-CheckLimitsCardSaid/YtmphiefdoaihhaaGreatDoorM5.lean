/-
  Chapter 3 said as functions on lists of bytes: no function of the program is named here.
-/
import Derived.Test.YtmphiefdoaihhaaGreatDoorOwn
import Derived.Test.YtmphiefdoaihhaaGreatDoorProg
import Derived.KernelRfl
import Derived.Deep.MidRow
import Derived.LoopN
import Derived.IntWalk
import Derived.StillTailTactics
import Derived.StillTactics
import Derived.Laws.Rows
import Derived.Deep.DeepCutAuto
import Derived.Deep.CutBlock
import Derived.Deep.RegionHeld3
namespace Go.Proofs.YtmphiefdoaihhaaGreatDoor.Tk

def letter (n : Nat) : Bool := n == 95 || (decide (97 ≤ n) && decide (n ≤ 122)) || (decide (65 ≤ n) && decide (n ≤ 90))
def digit (n : Nat) : Bool := decide (48 ≤ n) && decide (n ≤ 57)
def inName (b : UInt8) : Bool := letter b.toNat || digit b.toNat

def wordsL : List (List UInt8) := [[116, 121, 112, 101], [115, 116, 114, 117, 99, 116], [105, 110, 116, 101, 114, 102, 97, 99, 101], [102, 117, 110, 99], [118, 97, 114], [105, 102], [101, 108, 115, 101], [102, 111, 114], [98, 114, 101, 97, 107],
  [99, 111, 110, 116, 105, 110, 117, 101], [114, 101, 116, 117, 114, 110], [112, 114, 105, 110, 116], [108, 101, 110], [109, 97, 107, 101], [110, 101, 119], [105, 110, 112, 117, 116], [116, 114, 117, 101], [102, 97, 108, 115, 101], [110, 105, 108],
  [105, 110, 116], [98, 111, 111, 108], [115, 116, 114, 105, 110, 103]]
def isWord (l : List UInt8) : Bool := wordsL.contains l

def nameLen : List UInt8 → Nat
  | [] => 0
  | b :: l => if digit b.toNat then 0 else ((b :: l).takeWhile inName).length

def isName (l : List UInt8) : Bool := !l.isEmpty && (nameLen l == l.length) && !isWord l

structure Tok where
  kind : Nat
  text : List UInt8
  n : Nat
  line : Nat
  col : Nat

def endWords : List (List UInt8) := [[116, 114, 117, 101], [102, 97, 108, 115, 101], [110, 105, 108], [98, 114, 101, 97, 107], [99, 111, 110, 116, 105, 110, 117, 101], [114, 101, 116, 117, 114, 110], [105, 110, 116], [98, 111, 111, 108], [115, 116, 114, 105, 110, 103]]
def mayEnd (t : Tok) : Bool :=
  t.kind == 2 || t.kind == 4 || t.kind == 5 || (t.kind == 3 && endWords.contains t.text) || (t.kind == 6 && (t.text == [41] || t.text == [93] || t.text == [125]))
def lastEnds (out : List Tok) : Bool := match out.getLast? with
  | none => false
  | some t => mayEnd t

/-- What a number is, from its digits on: its value, and how many they are; none: too great. -/
def numGo : List UInt8 → Nat → Nat → Option (Nat × Nat)
  | [], x, k => some (x, k)
  | b :: l, x, k => if digit b.toNat then (if x > (9223372036854775807 - (b.toNat - 48)) / 10 then none else numGo l (x * 10 + (b.toNat - 48)) (k + 1)) else some (x, k)

/-- The byte that the beginning of a text denotes, and how long that beginning is. -/
def denoted : List UInt8 → Option (UInt8 × Nat)
  | [] => none
  | b :: l => if b.toNat < 32 ∨ 126 < b.toNat then none else if b ≠ 92 then some (b, 1) else match l with
    | [] => none
    | c :: _ => if c = 110 then some (10, 2) else if c = 116 then some (9, 2) else if c = 34 ∨ c = 92 then some (c, 2) else none

/-- A text from behind its quote on: what it tells, and how many bytes it has with the closing quote. -/
def txtGo : Nat → List UInt8 → List UInt8 → Nat → Option (List UInt8 × Nat)
  | 0, _, _, _ => none
  | f + 1, l, acc, k => match l with
    | [] => none
    | b :: _ => if b = 34 then (if 2000 < acc.length then none else some (acc, k + 1)) else match denoted l with
      | none => none
      | some (c, n) => txtGo f (l.drop n) (acc ++ [c]) (k + n)

def signsL : List (List UInt8) := [[58, 61], [61, 61], [33, 61], [60, 61], [62, 61], [38, 38], [124, 124], [43], [45], [42], [47], [37], [60], [62], [61], [33], [40], [41], [91], [93], [123], [125], [44], [46]]

inductive Got where
  | tok (kind : Nat) (text : List UInt8) (n used : Nat)
  | err (e : Nat)

/-- The token at the front. -/
def one (l : List UInt8) : Got := match l with
  | [] => .err 10
  | b :: r =>
    if b = 59 then .tok 1 [59] 0 1
    else if letter b.toNat then let t := l.takeWhile inName; .tok (if isWord t then 3 else 2) t 0 t.length
    else if digit b.toNat then match numGo l 0 0 with
      | none => .err 12
      | some (x, k) => .tok 4 (l.take k) x k
    else if b = 34 then match txtGo l.length r [] 1 with
      | none => .err 11
      | some (t, k) => .tok 5 t 0 k
    else match signsL.find? (fun g => g.isPrefixOf l) with
      | none => .err 10
      | some g => .tok 6 g 0 g.length

inductive Res where
  | ok (out : List Tok)
  | bad (line col e : Nat)

structure St where
  l : List UInt8
  line : Nat
  col : Nat
  out : List Tok

def push (σ : St) (kind : Nat) (text : List UInt8) (n used : Nat) : St ⊕ Res :=
  if σ.out.length = 4000 then .inr (.bad σ.line σ.col 6) else .inl ⟨σ.l.drop used, σ.line, σ.col + used, σ.out ++ [⟨kind, text, n, σ.line, σ.col⟩]⟩

def step (σ : St) : St ⊕ Res := match σ.l with
  | [] => if lastEnds σ.out then push σ 1 [59] 0 0 else if σ.out.length = 4000 then .inr (.bad σ.line σ.col 6) else .inr (.ok (σ.out ++ [⟨0, [], 0, σ.line, σ.col⟩]))
  | b :: r =>
    if b = 10 then (if lastEnds σ.out then push σ 1 [59] 0 0 else .inl ⟨r, σ.line + 1, 1, σ.out⟩)
    else if b = 32 ∨ b = 9 ∨ b = 13 then .inl ⟨r, σ.line, σ.col + 1, σ.out⟩
    else if [47, 47].isPrefixOf σ.l then let t := σ.l.takeWhile (fun c => c ≠ 10); .inl ⟨σ.l.drop t.length, σ.line, σ.col + t.length, σ.out⟩
    else match one σ.l with
      | .err e => .inr (.bad σ.line σ.col e)
      | .tok kind text n used => push σ kind text n used

def runN : Nat → St → Option Res
  | 0, _ => none
  | n + 1, σ => match step σ with
    | .inl σ' => runN n σ'
    | .inr r => some r

def Lex (σ : St) (r : Res) : Prop := ∃ n, runN n σ = some r

theorem Lex.next {σ σ' : St} {r : Res} (h : step σ = .inl σ') (hl : Lex σ' r) : Lex σ r := by
  obtain ⟨n, hn⟩ := hl
  exact ⟨n + 1, by simp [runN, h, hn]⟩
theorem Lex.done {σ : St} {r : Res} (h : step σ = .inr r) : Lex σ r := ⟨1, by simp [runN, h]⟩
theorem runN_more : ∀ {n : Nat} {σ : St} {r : Res}, runN n σ = some r → ∀ m, runN (n + m) σ = some r
  | 0, _, _, h => by simp [runN] at h
  | n + 1, σ, r, h => fun m => by
    rw [Nat.add_right_comm]
    simp only [runN] at h ⊢
    cases hs : step σ with
    | inl σ' => rw [hs] at h; exact runN_more (n := n) h m
    | inr r' => rw [hs] at h; exact h
theorem Lex.det {σ : St} {r r' : Res} (h : Lex σ r) (h' : Lex σ r') : r = r' := by
  obtain ⟨n, hn⟩ := h
  obtain ⟨m, hm⟩ := h'
  have a := runN_more hn m
  have b := runN_more hm n
  rw [Nat.add_comm, a] at b
  exact Option.some.inj b

/-- All: chapter 3.1. -/
def LexAll (l : List UInt8) (r : Res) : Prop := if 16384 < l.length then r = .bad 1 1 6 else Lex ⟨l, 1, 1, []⟩ r


def bs (l : List UInt8) : ByteArray := ⟨l.toArray⟩
theorem bs_size (l : List UInt8) : (bs l).size = l.length := by simp [bs, ByteArray.size]
theorem bs_get (l : List UInt8) (k : Nat) (h : k < (bs l).size) : (bs l)[k] = l[k]'(by rw [bs_size] at h; exact h) := by
  show (bs l).data[k] = _
  simp [bs]
theorem bs_of (s : ByteArray) : s = bs s.data.toList := by simp [bs]
theorem bs_list (l : List UInt8) : (bs l).toList = l := by
  have h : ∀ (b : ByteArray), b.toList = b.data.toList := fun b => by first | rfl | exact ByteArray.toList_eq b | simp
  rw [h]; simp [bs]
end Go.Proofs.YtmphiefdoaihhaaGreatDoor.Tk

/-
  Package token: letters, digits, words, names.
-/
namespace Go.Proofs.YtmphiefdoaihhaaGreatDoor.Tk
open Go.RowKit
set_option maxRecDepth 100000

theorem dec_of {p : Prop} [Decidable p] (h : p) : decide p = true := decide_eq_true h
theorem dec_not {p : Prop} [Decidable p] (h : ¬ p) : decide p = false := decide_eq_false h

set_option maxHeartbeats 400000 in
theorem isDigit_any {w : World} (n : Nat) (hn : n < 256) : Calls Tryz.prog 63 #[.int .u8 n] w fun e w' => e = .returned (.bool (digit n)) ∧ w = w' := by
  by_cases h1 : 48 ≤ n
  · by_cases h2 : n ≤ 57
    · have a1 : ((n : Int) ≥ 48) := by omega
      have a2 : ((n : Int) ≤ 57) := by omega
      have e : digit n = true := by simp [digit, h1, h2]
      rw [e]
      go_enter Tryz.func63, Tryz.ntmps63
      go_wp2
      go_ret
      exact ⟨rfl, rfl⟩
    · have a1 : ((n : Int) ≥ 48) := by omega
      have a2 : ¬ ((n : Int) ≤ 57) := by omega
      have e : digit n = false := by simp [digit, h2]
      rw [e]
      go_enter Tryz.func63, Tryz.ntmps63
      go_wp2
      go_ret
      exact ⟨rfl, rfl⟩
  · have a1 : ¬ ((n : Int) ≥ 48) := by omega
    have e : digit n = false := by simp [digit, h1]
    rw [e]
    go_enter Tryz.func63, Tryz.ntmps63
    go_wp2
    go_ret
    exact ⟨rfl, rfl⟩

theorem beqT {n : Nat} {k : Nat} (h : n = k) : ((n : Int) == (k : Int)) = true := by subst h; simp
theorem beqF {n : Nat} {k : Nat} (h : n ≠ k) : ((n : Int) == (k : Int)) = false := by simp; omega

set_option maxHeartbeats 800000 in
theorem isLetter_any {w : World} (n : Nat) (hn : n < 256) : Calls Tryz.prog 61 #[.int .u8 n] w fun e w' => e = .returned (.bool (letter n)) ∧ w = w' := by
  by_cases h0 : n = 95
  · have a0 : ((n : Int) == 95) = true := beqT h0
    have e : letter n = true := by simp [letter, h0]
    rw [e]
    go_enter Tryz.func61, Tryz.ntmps61
    go_wp2
    go_ret
    exact ⟨rfl, rfl⟩
  have a0 : ((n : Int) == 95) = false := beqF h0
  by_cases h1 : 97 ≤ n
  · have a1 : ((n : Int) ≥ 97) := by omega
    have a3 : ((n : Int) ≥ 65) := by omega
    have a4 : ¬ ((n : Int) ≤ 90) := by omega
    by_cases h2 : n ≤ 122
    · have a2 : ((n : Int) ≤ 122) := by omega
      have e : letter n = true := by simp [letter, h1, h2]
      rw [e]
      go_enter Tryz.func61, Tryz.ntmps61
      go_wp2
      go_ret
      exact ⟨rfl, rfl⟩
    · have a2 : ¬ ((n : Int) ≤ 122) := by omega
      have e : letter n = false := by simp [letter, h0, h2]; omega
      rw [e]
      go_enter Tryz.func61, Tryz.ntmps61
      go_wp2
      go_ret
      exact ⟨rfl, rfl⟩
  · have a1 : ¬ ((n : Int) ≥ 97) := by omega
    by_cases h3 : 65 ≤ n
    · have a3 : ((n : Int) ≥ 65) := by omega
      by_cases h4 : n ≤ 90
      · have a4 : ((n : Int) ≤ 90) := by omega
        have e : letter n = true := by simp [letter, h3, h4]
        rw [e]
        go_enter Tryz.func61, Tryz.ntmps61
        go_wp2
        go_ret
        exact ⟨rfl, rfl⟩
      · have a4 : ¬ ((n : Int) ≤ 90) := by omega
        have e : letter n = false := by simp [letter, h0, h1, h4]
        rw [e]
        go_enter Tryz.func61, Tryz.ntmps61
        go_wp2
        go_ret
        exact ⟨rfl, rfl⟩
    · have a3 : ¬ ((n : Int) ≥ 65) := by omega
      have e : letter n = false := by simp [letter, h0, h1, h3]
      rw [e]
      go_enter Tryz.func61, Tryz.ntmps61
      go_wp2
      go_ret
      exact ⟨rfl, rfl⟩

/-- The program's variables: the words, the signs. -/
def wordsV : List Value := wordsL.map (fun x => .string (bs x))
def signsV : List Value := signsL.map (fun x => .string (bs x))
structure Laid (w : World) : Prop where
  words : w.rangeAt 1 0 wordsV
  signs : w.rangeAt 0 0 signsV

theorem range_kept {S : Nat → Prop} {w w' : World} {b o : Nat} {cs : List Value} (h : w.rangeAt b o cs) (hf : Fr S w w') (hb : ¬ S b) : w'.rangeAt b o cs :=
  fun j v hj => (hf.cell (p := ⟨b, o + j, none⟩) (World.block_lt_of_cell? w _ (h j v hj)) hb).trans (h j v hj)
theorem Laid.kept {S : Nat → Prop} {w w' : World} (h : Laid w) (hf : Fr S w w') (h0 : ¬ S 1) (h2 : ¬ S 0) : Laid w' := ⟨range_kept h.words hf h0, range_kept h.signs hf h2⟩

/-- An array of texts, indexed. -/
def ArrIs (t : TypeId) (A0 : Value) (L : List (List UInt8)) : Prop := ∀ (j : Nat) (x : List UInt8), L[j]? = some x → ∀ w, (Instr.index t A0 (.int .i64 j)).run Tryz.prog w = .ok (.string (bs x)) w

set_option maxRecDepth 100000 in
theorem words_idx : ArrIs 127 (.agg wordsV.toArray) wordsL := by
  intro j x h
  have hj : j < 22 := (List.getElem?_eq_some_iff.1 h).1
  match j, hj with
  | 0, _ => simp only [wordsL, List.getElem?_cons_zero, Option.some.injEq] at h; subst h; exact fun _ => by kernel_rfl
  | 1, _ => simp only [wordsL, List.getElem?_cons_zero, List.getElem?_cons_succ, Option.some.injEq] at h; subst h; exact fun _ => by kernel_rfl
  | 2, _ => simp only [wordsL, List.getElem?_cons_zero, List.getElem?_cons_succ, Option.some.injEq] at h; subst h; exact fun _ => by kernel_rfl
  | 3, _ => simp only [wordsL, List.getElem?_cons_zero, List.getElem?_cons_succ, Option.some.injEq] at h; subst h; exact fun _ => by kernel_rfl
  | 4, _ => simp only [wordsL, List.getElem?_cons_zero, List.getElem?_cons_succ, Option.some.injEq] at h; subst h; exact fun _ => by kernel_rfl
  | 5, _ => simp only [wordsL, List.getElem?_cons_zero, List.getElem?_cons_succ, Option.some.injEq] at h; subst h; exact fun _ => by kernel_rfl
  | 6, _ => simp only [wordsL, List.getElem?_cons_zero, List.getElem?_cons_succ, Option.some.injEq] at h; subst h; exact fun _ => by kernel_rfl
  | 7, _ => simp only [wordsL, List.getElem?_cons_zero, List.getElem?_cons_succ, Option.some.injEq] at h; subst h; exact fun _ => by kernel_rfl
  | 8, _ => simp only [wordsL, List.getElem?_cons_zero, List.getElem?_cons_succ, Option.some.injEq] at h; subst h; exact fun _ => by kernel_rfl
  | 9, _ => simp only [wordsL, List.getElem?_cons_zero, List.getElem?_cons_succ, Option.some.injEq] at h; subst h; exact fun _ => by kernel_rfl
  | 10, _ => simp only [wordsL, List.getElem?_cons_zero, List.getElem?_cons_succ, Option.some.injEq] at h; subst h; exact fun _ => by kernel_rfl
  | 11, _ => simp only [wordsL, List.getElem?_cons_zero, List.getElem?_cons_succ, Option.some.injEq] at h; subst h; exact fun _ => by kernel_rfl
  | 12, _ => simp only [wordsL, List.getElem?_cons_zero, List.getElem?_cons_succ, Option.some.injEq] at h; subst h; exact fun _ => by kernel_rfl
  | 13, _ => simp only [wordsL, List.getElem?_cons_zero, List.getElem?_cons_succ, Option.some.injEq] at h; subst h; exact fun _ => by kernel_rfl
  | 14, _ => simp only [wordsL, List.getElem?_cons_zero, List.getElem?_cons_succ, Option.some.injEq] at h; subst h; exact fun _ => by kernel_rfl
  | 15, _ => simp only [wordsL, List.getElem?_cons_zero, List.getElem?_cons_succ, Option.some.injEq] at h; subst h; exact fun _ => by kernel_rfl
  | 16, _ => simp only [wordsL, List.getElem?_cons_zero, List.getElem?_cons_succ, Option.some.injEq] at h; subst h; exact fun _ => by kernel_rfl
  | 17, _ => simp only [wordsL, List.getElem?_cons_zero, List.getElem?_cons_succ, Option.some.injEq] at h; subst h; exact fun _ => by kernel_rfl
  | 18, _ => simp only [wordsL, List.getElem?_cons_zero, List.getElem?_cons_succ, Option.some.injEq] at h; subst h; exact fun _ => by kernel_rfl
  | 19, _ => simp only [wordsL, List.getElem?_cons_zero, List.getElem?_cons_succ, Option.some.injEq] at h; subst h; exact fun _ => by kernel_rfl
  | 20, _ => simp only [wordsL, List.getElem?_cons_zero, List.getElem?_cons_succ, Option.some.injEq] at h; subst h; exact fun _ => by kernel_rfl
  | 21, _ => simp only [wordsL, List.getElem?_cons_zero, List.getElem?_cons_succ, Option.some.injEq] at h; subst h; exact fun _ => by kernel_rfl

set_option maxRecDepth 100000 in
theorem signs_idx : ArrIs 120 (.agg signsV.toArray) signsL := by
  intro j x h
  have hj : j < 24 := (List.getElem?_eq_some_iff.1 h).1
  match j, hj with
  | 0, _ => simp only [signsL, List.getElem?_cons_zero, Option.some.injEq] at h; subst h; exact fun _ => by kernel_rfl
  | 1, _ => simp only [signsL, List.getElem?_cons_zero, List.getElem?_cons_succ, Option.some.injEq] at h; subst h; exact fun _ => by kernel_rfl
  | 2, _ => simp only [signsL, List.getElem?_cons_zero, List.getElem?_cons_succ, Option.some.injEq] at h; subst h; exact fun _ => by kernel_rfl
  | 3, _ => simp only [signsL, List.getElem?_cons_zero, List.getElem?_cons_succ, Option.some.injEq] at h; subst h; exact fun _ => by kernel_rfl
  | 4, _ => simp only [signsL, List.getElem?_cons_zero, List.getElem?_cons_succ, Option.some.injEq] at h; subst h; exact fun _ => by kernel_rfl
  | 5, _ => simp only [signsL, List.getElem?_cons_zero, List.getElem?_cons_succ, Option.some.injEq] at h; subst h; exact fun _ => by kernel_rfl
  | 6, _ => simp only [signsL, List.getElem?_cons_zero, List.getElem?_cons_succ, Option.some.injEq] at h; subst h; exact fun _ => by kernel_rfl
  | 7, _ => simp only [signsL, List.getElem?_cons_zero, List.getElem?_cons_succ, Option.some.injEq] at h; subst h; exact fun _ => by kernel_rfl
  | 8, _ => simp only [signsL, List.getElem?_cons_zero, List.getElem?_cons_succ, Option.some.injEq] at h; subst h; exact fun _ => by kernel_rfl
  | 9, _ => simp only [signsL, List.getElem?_cons_zero, List.getElem?_cons_succ, Option.some.injEq] at h; subst h; exact fun _ => by kernel_rfl
  | 10, _ => simp only [signsL, List.getElem?_cons_zero, List.getElem?_cons_succ, Option.some.injEq] at h; subst h; exact fun _ => by kernel_rfl
  | 11, _ => simp only [signsL, List.getElem?_cons_zero, List.getElem?_cons_succ, Option.some.injEq] at h; subst h; exact fun _ => by kernel_rfl
  | 12, _ => simp only [signsL, List.getElem?_cons_zero, List.getElem?_cons_succ, Option.some.injEq] at h; subst h; exact fun _ => by kernel_rfl
  | 13, _ => simp only [signsL, List.getElem?_cons_zero, List.getElem?_cons_succ, Option.some.injEq] at h; subst h; exact fun _ => by kernel_rfl
  | 14, _ => simp only [signsL, List.getElem?_cons_zero, List.getElem?_cons_succ, Option.some.injEq] at h; subst h; exact fun _ => by kernel_rfl
  | 15, _ => simp only [signsL, List.getElem?_cons_zero, List.getElem?_cons_succ, Option.some.injEq] at h; subst h; exact fun _ => by kernel_rfl
  | 16, _ => simp only [signsL, List.getElem?_cons_zero, List.getElem?_cons_succ, Option.some.injEq] at h; subst h; exact fun _ => by kernel_rfl
  | 17, _ => simp only [signsL, List.getElem?_cons_zero, List.getElem?_cons_succ, Option.some.injEq] at h; subst h; exact fun _ => by kernel_rfl
  | 18, _ => simp only [signsL, List.getElem?_cons_zero, List.getElem?_cons_succ, Option.some.injEq] at h; subst h; exact fun _ => by kernel_rfl
  | 19, _ => simp only [signsL, List.getElem?_cons_zero, List.getElem?_cons_succ, Option.some.injEq] at h; subst h; exact fun _ => by kernel_rfl
  | 20, _ => simp only [signsL, List.getElem?_cons_zero, List.getElem?_cons_succ, Option.some.injEq] at h; subst h; exact fun _ => by kernel_rfl
  | 21, _ => simp only [signsL, List.getElem?_cons_zero, List.getElem?_cons_succ, Option.some.injEq] at h; subst h; exact fun _ => by kernel_rfl
  | 22, _ => simp only [signsL, List.getElem?_cons_zero, List.getElem?_cons_succ, Option.some.injEq] at h; subst h; exact fun _ => by kernel_rfl
  | 23, _ => simp only [signsL, List.getElem?_cons_zero, List.getElem?_cons_succ, Option.some.injEq] at h; subst h; exact fun _ => by kernel_rfl

theorem eqL (a b : List UInt8) : ((bs a).toList == (bs b).toList) = (a == b) := by rw [bs_list, bs_list]

set_option maxHeartbeats 4000000 in
theorem isWord_any {w : World} (h : Laid w) (l : List UInt8) : Calls Tryz.prog 92 #[.string (bs l)] w fun e w' => e = .returned (.bool (isWord l)) ∧ w = w' := by
  have L := Lib.hid h
  have R := Lib.hid h.words
  have I := Lib.hid words_idx
  clear h
  generalize hV : wordsV = V at R I
  have hV2 : (Tryz.prog.info? 127).map (·.size) = some V.length := by rw [← hV]; kernel_rfl
  clear hV
  have HV := Lib.hid hV2
  clear hV2
  go_enter Tryz.func92, Tryz.ntmps92
  go_wp2_with (refine wpList_load_mid rfl 127 _ rfl 1 0 rfl V _ R.out Tryz.underlying127 rfl HV.out ?_)
  generalize Value.agg V.toArray = A0 at I ⊢
  go_loopw [6] (fun i wr => ∃ k : Nat, k ≤ 22 ∧ i = .int .i64 k ∧ Hid (w = wr ∧ ∀ j x, j < k → wordsL[j]? = some x → x ≠ l)) (fun i _ => 22 - (intOf i).toNat)
  case atStart => exact ⟨0, by decide, rfl, Lib.hid ⟨rfl, fun _ _ h => absurd h (Nat.not_lt_zero _)⟩⟩
  case round =>
    obtain ⟨k, hk, rfl, hm⟩ := hrel
    by_cases hlt : k < 22
    · obtain ⟨x, hx⟩ : ∃ x, wordsL[k]? = some x := ⟨_, List.getElem?_eq_getElem (by show k < 22; omega)⟩
      have ix := I.out k x hx
      have Hx := Lib.hid hx
      clear hx
      by_cases hxl : l = x
      · have e1 : ((bs l).toList == (bs x).toList) = true := by rw [eqL]; simpa using hxl
        go_wp2_with fail
        go_ret
        refine ⟨?_, hm.out.1⟩
        rw [show isWord l = true from by rw [isWord, List.contains_iff_mem, hxl]; exact List.mem_of_getElem? Hx.out]
        rfl
      · have e1 : ((bs l).toList == (bs x).toList) = false := by rw [eqL]; simpa using hxl
        go_wp2_with fail
        go_roundw
        case rel => exact ⟨k + 1, by omega, by go_num, Lib.hid ⟨hm.out.1, fun j y hj hy => by
          by_cases hjk : j = k
          · subst hjk; rw [Hx.out] at hy; cases hy; exact fun e => hxl e.symm
          · exact hm.out.2 j y (by omega) hy⟩⟩
        case measure => simp [intOf]; omega
    · have hk2 : k = 22 := by omega
      subst hk2
      go_wp2_with fail
      go_ret
      refine ⟨?_, hm.out.1⟩
      rw [show isWord l = false from by
        rw [isWord, Bool.eq_false_iff, Ne, List.contains_iff_mem]
        intro hmem
        obtain ⟨j, hj⟩ := List.mem_iff_getElem?.1 hmem
        exact hm.out.2 j l (by have := (List.getElem?_eq_some_iff.1 hj).1; exact this) hj rfl]
      rfl

theorem get_bs {l : List UInt8} {k : Nat} {c : UInt8} (h : k < (bs l).size) (e : l[k]? = some c) : (bs l)[k] = c := by
  rw [bs_get l k h]
  exact (List.getElem?_eq_some_iff.1 e).2

theorem takeWhile_len {p : UInt8 → Bool} : ∀ {l : List UInt8} {k : Nat}, (∀ j c, j < k → l[j]? = some c → p c = true) → k ≤ l.length → (∀ c, l[k]? = some c → p c = false) → (l.takeWhile p).length = k
  | [], k, _, hk, _ => by simp at hk ⊢; omega
  | b :: l, 0, _, _, hs => by simp [hs b rfl]
  | b :: l, k + 1, h, hk, hs => by
    rw [List.takeWhile_cons, if_pos (h 0 b (Nat.succ_pos _) rfl), List.length_cons, takeWhile_len (l := l) (k := k) (fun j c hj hc => h (j + 1) c (by omega) hc) (by simp at hk; omega) (fun c hc => hs c hc)]

set_option maxHeartbeats 4000000 in
theorem nameLen_any {w : World} (l : List UInt8) (hl : l.length ≤ 9223372036854775807) : Calls Tryz.prog 91 #[.string (bs l)] w fun e w' => e = .returned (.int .i64 (nameLen l)) ∧ w = w' := by
  cases l with
  | nil =>
    have e1 : (bs []).toList.isEmpty = true := by rw [bs_list]; rfl
    go_enter Tryz.func91, Tryz.ntmps91
    go_wp2
    go_ret
    exact ⟨rfl, rfl⟩
  | cons b r =>
    have e1 : (bs (b :: r)).toList.isEmpty = false := by rw [bs_list]; rfl
    have ix : ∀ (k : Nat) (c : UInt8) (h : k < (bs (b :: r)).size), (b :: r)[k]? = some c → (bs (b :: r))[k] = c := fun k c h e => get_bs h e
    have hsz := bs_size (b :: r)
    have I := Lib.hid ix
    clear ix
    generalize hs : bs (b :: r) = s at *
    have h0 : 0 < s.size := by rw [hsz]; simp
    have ix0 := I.out 0 b h0 rfl
    clear hs
    have hlen : (b :: r).length ≤ 9223372036854775807 := hl
    obtain ⟨n, hn⟩ : ∃ n, n = (b :: r).length := ⟨_, rfl⟩
    rw [← hn] at hsz hlen
    have Hn := Lib.hid hn
    clear hn hl
    cases hd : digit b.toNat
    · have E : nameLen (b :: r) = ((b :: r).takeWhile inName).length := by simp [nameLen, hd]
      rw [E]
      generalize hll : (b :: r) = l at Hn I
      go_enter Tryz.func91, Tryz.ntmps91
      go_wp2_with fail
      refine (isDigit_any b.toNat (UInt8.toNat_lt b)).mono ?_
      rintro e w' ⟨rfl, rfl⟩
      rw [hd]
      clear hll E
      go_wp2_with fail
      go_loopw [3] (fun i wr => ∃ k : Nat, k ≤ n ∧ i = .int .i64 k ∧ Hid (w = wr ∧ ∀ j c, j < k → l[j]? = some c → inName c = true)) (fun i _ => n - (intOf i).toNat)
      case atStart => exact ⟨0, by omega, rfl, Lib.hid ⟨rfl, fun _ _ h => absurd h (Nat.not_lt_zero _)⟩⟩
      case round =>
        obtain ⟨k, hk, rfl, hm⟩ := hrel
        by_cases hlt : k < n
        · obtain ⟨c, hc⟩ : ∃ c, l[k]? = some c := ⟨_, List.getElem?_eq_getElem (by rw [← Hn.out]; exact hlt)⟩
          have hks : k < s.size := by rw [hsz]; exact hlt
          have gk := I.out k c hks hc
          have C := Lib.hid hc
          clear hc
          cases hL : letter c.toNat
          · cases hD : digit c.toNat
            · go_wp2_with fail
              refine (isLetter_any c.toNat (UInt8.toNat_lt c)).mono ?_
              rintro e w' ⟨rfl, rfl⟩
              rw [hL]
              go_wp2_with fail
              refine (isDigit_any c.toNat (UInt8.toNat_lt c)).mono ?_
              rintro e w' ⟨rfl, rfl⟩
              rw [hD]
              go_wp2_with fail
              go_ret
              refine ⟨?_, hm.out.1⟩
              rw [takeWhile_len hm.out.2 (by rw [← Hn.out]; exact hk) (fun c' hc' => by rw [C.out] at hc'; cases hc'; simp [inName, hL, hD])]
              rfl
            · go_wp2_with fail
              refine (isLetter_any c.toNat (UInt8.toNat_lt c)).mono ?_
              rintro e w' ⟨rfl, rfl⟩
              rw [hL]
              go_wp2_with fail
              refine (isDigit_any c.toNat (UInt8.toNat_lt c)).mono ?_
              rintro e w' ⟨rfl, rfl⟩
              rw [hD]
              go_wp2_with fail
              go_roundw
              case rel => exact ⟨k + 1, by omega, by go_num, Lib.hid ⟨hm.out.1, fun j y hj hy => by
                by_cases hjk : j = k
                · subst hjk; rw [C.out] at hy; cases hy; simp [inName, hD]
                · exact hm.out.2 j y (by omega) hy⟩⟩
              case measure => simp [intOf]; omega
          · go_wp2_with fail
            refine (isLetter_any c.toNat (UInt8.toNat_lt c)).mono ?_
            rintro e w' ⟨rfl, rfl⟩
            rw [hL]
            go_wp2_with fail
            go_roundw
            case rel => exact ⟨k + 1, by omega, by go_num, Lib.hid ⟨hm.out.1, fun j y hj hy => by
              by_cases hjk : j = k
              · subst hjk; rw [C.out] at hy; cases hy; simp [inName, hL]
              · exact hm.out.2 j y (by omega) hy⟩⟩
            case measure => simp [intOf]; omega
        · have hkn : k = n := by omega
          go_wp2_with fail
          go_ret
          refine ⟨?_, hm.out.1⟩
          rw [takeWhile_len hm.out.2 (by rw [← Hn.out]; exact hk) (fun c' hc' => by
            have := (List.getElem?_eq_some_iff.1 hc').1
            rw [← Hn.out] at this
            omega)]
          rfl
    · have E : nameLen (b :: r) = 0 := by simp [nameLen, hd]
      rw [E]
      go_enter Tryz.func91, Tryz.ntmps91
      go_wp2_with fail
      refine (isDigit_any b.toNat (UInt8.toNat_lt b)).mono ?_
      rintro e w' ⟨rfl, rfl⟩
      rw [hd]
      go_wp2_with fail
      go_ret
      exact ⟨rfl, rfl⟩

theorem eE (l : List UInt8) : (bs l).toList.isEmpty = l.isEmpty := by rw [bs_list]
end Go.Proofs.YtmphiefdoaihhaaGreatDoor.Tk

/-
  Package token: the scanner as it lies in memory; pass, skipComment, HasPrefix, lacksSemi.
-/
namespace Go.Proofs.YtmphiefdoaihhaaGreatDoor.Tk
open Go.RowKit
set_option maxRecDepth 100000

theorem _root_.Go.Proofs.YtmphiefdoaihhaaGreatDoor.Fr.drewN {S : Nat → Prop} {a b : World} (h : Fr S a b) (n : Nat) : Fr S a (b.drewN n) := ⟨h.os, h.tape, h.output, h.size, h.block⟩
theorem blk_set {w : World} {g : Nat} {t : TypeId} {cs : Array Value} (h : w.heap[g]? = some (.cells cs t (0, 0))) (i : Nat) (u : Value) : (w.setCell ⟨g, i, none⟩ u).heap[g]? = some (.cells (cs.setIfInBounds i u) t (0, 0)) := by
  simp [World.setCell, Array.getElem?_modify, h]

def TokC (t : Tok) (cs : List Value) : Prop := cs = [.int .i64 t.kind, .string (bs t.text), .int .i64 t.n, .int .i64 t.line, .int .i64 t.col]

/-- A scanner at block p: at byte k of T, in a line that begins at 'first'; it has found 'out'. -/
structure Sc (w : World) (B p : Nat) (T : List UInt8) (k line first : Nat) (v : Value) (out : List Tok) : Prop where
  obj : w.heap[p]? = some (.cells #[.string (bs T), .int .i64 k, .int .i64 line, .int .i64 first, v] 67 (0, 0))
  own : OwnSl w B 45 5 TokC v out
  ne : v.ownBlock ≠ some p
  kT : k ≤ T.length
  fk : first ≤ k
  ln : line ≤ k + 1
  big : T.length ≤ 16384
  few : out.length ≤ 4000
  lo : B ≤ p

section
variable {w w' : World} {B p : Nat} {T : List UInt8} {k line first : Nat} {v : Value} {out : List Tok}

theorem Sc.c0 (h : Sc w B p T k line first v out) : w.cell? ⟨p, 0, none⟩ = some (.string (bs T)) := by rw [cell_of_row w p 0 _ _ _ h.obj]; rfl
theorem Sc.c1 (h : Sc w B p T k line first v out) : w.cell? ⟨p, 1, none⟩ = some (.int .i64 k) := by rw [cell_of_row w p 1 _ _ _ h.obj]; rfl
theorem Sc.c2 (h : Sc w B p T k line first v out) : w.cell? ⟨p, 2, none⟩ = some (.int .i64 line) := by rw [cell_of_row w p 2 _ _ _ h.obj]; rfl
theorem Sc.c3 (h : Sc w B p T k line first v out) : w.cell? ⟨p, 3, none⟩ = some (.int .i64 first) := by rw [cell_of_row w p 3 _ _ _ h.obj]; rfl
theorem Sc.c4 (h : Sc w B p T k line first v out) : w.cell? ⟨p, 4, none⟩ = some v := by rw [cell_of_row w p 4 _ _ _ h.obj]; rfl
theorem Sc.fr (h : Sc w B p T k line first v out) (j : Nat) : w.frozen? ⟨p, j, none⟩ = false := frozen_of_row w p j _ _ h.obj
theorem Sc.lt (h : Sc w B p T k line first v out) : p < w.heap.size := heap_lt h.obj

theorem Sc.kept {S : Nat → Prop} (h : Sc w B p T k line first v out) (hf : Fr S w w') (hp : ¬ S p) (hv : ∀ b, v.ownBlock = some b → ¬ S b) : Sc w' B p T k line first v out :=
  ⟨(hf.block p h.lt hp).trans h.obj, h.own.kept hf hv (fun _ _ _ h => h), h.ne, h.kT, h.fk, h.ln, h.big, h.few, h.lo⟩
theorem Sc.up (h : Sc w B p T k line first v out) (hf : Up w w') : Sc w' B p T k line first v out := h.kept hf (fun h => h) (fun _ _ h => h)
theorem Sc.drewN (h : Sc w B p T k line first v out) (n : Nat) : Sc (w.drewN n) B p T k line first v out := h.up (Fr.drewN (Fr.refl _ _) n)

abbrev FrP (p : Nat) : World → World → Prop := Fr (fun b => b = p)
theorem fr_set (i : Nat) (u : Value) : FrP p w (w.setCell ⟨p, i, none⟩ u) := (Fr.refl (fun b => b = p) w).setCell (p := ⟨p, i, none⟩) (fun _ => rfl) u

/-- The three numbers, set anew. -/
theorem Sc.put (h : Sc w B p T k line first v out) (k' line' first' : Nat) (hf : FrP p w w') (ho : w'.heap[p]? = some (.cells #[.string (bs T), .int .i64 k', .int .i64 line', .int .i64 first', v] 67 (0, 0)))
    (h1 : k' ≤ T.length) (h2 : first' ≤ k') (h3 : line' ≤ k' + 1) : Sc w' B p T k' line' first' v out :=
  ⟨ho, h.own.kept hf (fun b hb e => h.ne (by subst e; exact hb)) (fun _ _ _ h => h), h.ne, h1, h2, h3, h.big, h.few, h.lo⟩

theorem Sc.setAt (h : Sc w B p T k line first v out) (k' : Nat) (h0 : k ≤ k') (h1 : k' ≤ T.length) : Sc (w.setCell ⟨p, 1, none⟩ (.int .i64 k')) B p T k' line first v out :=
  h.put k' line first (fr_set _ _) (by rw [blk_set h.obj]; rfl) h1 (by have := h.fk; omega) (by have := h.ln; omega)

/-- The line's end is passed. -/
theorem Sc.setLine (h : Sc w B p T k line first v out) (h1 : k < T.length) :
    Sc (((w.setCell ⟨p, 1, none⟩ (.int .i64 ((k + 1 : Nat)))).setCell ⟨p, 2, none⟩ (.int .i64 ((line + 1 : Nat)))).setCell ⟨p, 3, none⟩ (.int .i64 ((k + 1 : Nat)))) B p T (k + 1) (line + 1) (k + 1) v out :=
  h.put (k + 1) (line + 1) (k + 1) (((fr_set _ _).setCell (p := ⟨p, 2, none⟩) (fun _ => rfl) _).setCell (p := ⟨p, 3, none⟩) (fun _ => rfl) _)
    (by rw [blk_set (blk_set (blk_set h.obj 1 _) 2 _) 3 _]; rfl) h1 (Nat.le_refl _) (by have := h.ln; omega)
end

theorem bs_extract (l : List UInt8) (a b : Nat) : (bs l).extract a b = bs ((l.drop a).take (b - a)) := ByteArray.extract_mk l a b
theorem bs_from (l : List UInt8) (a : Nat) : (bs l).extract a (bs l).size = bs (l.drop a) := by
  rw [bs_extract, bs_size, List.take_of_length_le (by simp)]

theorem _root_.Go.Proofs.YtmphiefdoaihhaaGreatDoor.Hid.mk_ {p : Prop} (h : p) : Hid p := Lib.hid h

set_option maxHeartbeats 400000 in
theorem pass_any {w : World} {B p : Nat} {T : List UInt8} {k line first : Nat} {v : Value} {out : List Tok} (h : Sc w B p T k line first v out) (n : Nat) (hn : k + n ≤ T.length) :
    Calls Tryz.prog 90 #[.pointer (some ⟨p, 0, none⟩), .int .i64 n] w fun e w' => e = .returned (.string (bs ((T.drop k).take n))) ∧ Sc w' B p T (k + n) line first v out ∧ FrP p w w' := by
  have c0 := h.c0
  have c1 := h.c1
  have f1 := h.fr 1
  have hT := h.big
  obtain ⟨m, hm⟩ : ∃ m, m = k + n := ⟨_, rfl⟩
  rw [← hm] at hn ⊢
  have hw : (k : Int) + (n : Int) = (m : Int) := by omega
  have H := Lib.hid (show Sc (w.setCell ⟨p, 1, none⟩ (.int .i64 m)) B p T m line first v out from h.setAt m (by omega) hn)
  have E := Lib.hid (show (bs T).extract k m = bs ((T.drop k).take n) by rw [bs_extract, hm, Nat.add_sub_cancel_left])
  have hsz := bs_size T
  have Hm := Lib.hid hm
  clear h hm
  go_enter Tryz.func90, Tryz.ntmps90
  go_wp2_with fail
  have f := fr_set (w := w) (p := p) 1 (.int .i64 m)
  generalize w.setCell ⟨p, 1, none⟩ (.int .i64 m) = w1 at H f ⊢
  clear c0 c1 f1 hw
  have c0 := H.out.c0
  have c1 := H.out.c1
  have F := Lib.hid f
  have a1 : (k : Int) ≤ (m : Int) := by have := Hm.out; omega
  have a2 : (m : Int) ≤ (bs T).size := by omega
  clear f
  go_quiet (fail)
  go_wp2_with fail
  go_ret
  refine ⟨?_, H.out.drewN _, F.out.drewN _⟩
  rw [← E.out]; rfl

set_option maxHeartbeats 400000 in
theorem hasPrefix_any {w : World} (a b : List UInt8) :
    Calls Tryz.prog 56 #[.string (bs a), .string (bs b)] w fun e w' => e = .returned (.bool (b.isPrefixOf a)) ∧ w = w' := by
  have sa := bs_size a
  have sb := bs_size b
  have inner : Calls Tryz.prog 88 #[.string (bs a), .string (bs b)] w fun e w' => e = .returned (.bool (b.isPrefixOf a)) ∧ w = w' := by
    by_cases hl : b.length ≤ a.length
    · have h1 : ((a.length : Int) ≥ (b.length : Int)) := by omega
      have h2 : ((b.length : Int) ≤ (bs a).size) := by omega
      have E : (bs a).extract 0 b.length = bs (a.take b.length) := by rw [bs_extract]; simp
      cases hp : b.isPrefixOf a
      · have e1 : ((bs (a.take b.length)).toList == (bs b).toList) = false := by
          rw [eqL, beq_eq_false_iff_ne]
          intro he
          rw [Bool.eq_false_iff, Ne, List.isPrefixOf_iff_prefix] at hp
          exact hp ⟨a.drop b.length, by conv => lhs; lhs; rw [← he]
                                        exact List.take_append_drop _ _⟩
        go_enter Tryz.func88, Tryz.ntmps88
        go_wp2
        go_ret
        exact ⟨rfl, rfl⟩
      · have e1 : ((bs (a.take b.length)).toList == (bs b).toList) = true := by
          rw [eqL, beq_iff_eq]
          rw [List.isPrefixOf_iff_prefix] at hp
          exact (List.prefix_iff_eq_take.1 hp).symm
        go_enter Tryz.func88, Tryz.ntmps88
        go_wp2
        go_ret
        exact ⟨rfl, rfl⟩
    · have h1 : ¬ ((a.length : Int) ≥ (b.length : Int)) := by omega
      have hp : b.isPrefixOf a = false := by
        rw [Bool.eq_false_iff, Ne, List.isPrefixOf_iff_prefix]
        exact fun h => hl h.length_le
      rw [hp]
      go_enter Tryz.func88, Tryz.ntmps88
      go_wp2
      go_ret
      exact ⟨rfl, rfl⟩
  go_enter Tryz.func56, Tryz.ntmps56
  go_wp2_with fail
  refine inner.mono ?_
  rintro e w' ⟨rfl, rfl⟩
  go_wp2_with fail
  go_ret
  exact ⟨rfl, rfl⟩

def posOf (w : World) (p : Nat) : Nat := match w.cell? ⟨p, 1, none⟩ with
  | some (.int _ n) => n.toNat
  | _ => 0
theorem Sc.pos {w : World} {B p : Nat} {T : List UInt8} {k line first : Nat} {v : Value} {out : List Tok} (h : Sc w B p T k line first v out) : posOf w p = k := by
  unfold posOf; rw [h.c1]; simp

theorem takeWhile_at {q : UInt8 → Bool} {T : List UInt8} {k j : Nat} (hkj : k ≤ j) (hj : j ≤ T.length) (h : ∀ i c, k ≤ i → i < j → T[i]? = some c → q c = true) (hs : ∀ c, T[j]? = some c → q c = false) :
    ((T.drop k).takeWhile q).length = j - k :=
  takeWhile_len (fun i c hi hc => by rw [List.getElem?_drop] at hc; exact h (k + i) c (by omega) (by omega) hc) (by rw [List.length_drop]; omega)
    (fun c hc => by rw [List.getElem?_drop, Nat.add_sub_cancel' hkj] at hc; exact hs c hc)

set_option maxHeartbeats 1000000 in
theorem skipComment_any {w : World} {B p : Nat} {T : List UInt8} {k line first : Nat} {v : Value} {out : List Tok} (h : Sc w B p T k line first v out) :
    Calls Tryz.prog 57 #[.pointer (some ⟨p, 0, none⟩)] w fun e w' => e = .returned (.tuple #[]) ∧ Sc w' B p T (k + ((T.drop k).takeWhile (fun c => c ≠ 10)).length) line first v out ∧ FrP p w w' := by
  have hk := h.kT
  have hT := h.big
  have H := Lib.hid h
  have hsz := bs_size T
  have Sz := Lib.hid hsz
  clear h
  go_enter Tryz.func57, Tryz.ntmps57
  go_wp2_with fail
  go_loopw [] (fun wr => ∃ j : Nat, k ≤ j ∧ j ≤ T.length ∧ Hid (Sc wr B p T j line first v out ∧ FrP p w wr ∧ ∀ i c, k ≤ i → i < j → T[i]? = some c → decide (c ≠ 10) = true)) (fun wr => T.length - posOf wr p)
  case atStart => exact ⟨k, Nat.le_refl _, hk, Lib.hid ⟨H.out, Fr.refl _ _, fun _ _ h1 h2 => by omega⟩⟩
  case round =>
    obtain ⟨j, hkj, hjT, hm⟩ := hrel
    have c0 := hm.out.1.c0
    have c1 := hm.out.1.c1
    have f1 := hm.out.1.fr 1
    have Ps := Lib.hid hm.out.1.pos
    by_cases hlt : j < T.length
    · obtain ⟨c, hc⟩ : ∃ c, T[j]? = some c := ⟨_, List.getElem?_eq_getElem hlt⟩
      have hjs : j < (bs T).size := by rw [hsz]; exact hlt
      have gj := get_bs hjs hc
      have C := Lib.hid hc
      clear hc
      have d1 : decide ((j : Int) < (T.length : Int)) = true := dec_of (by omega)
      have d0 : ((j : Int) < ((bs T).size : Int)) := by omega
      by_cases h10 : c = 10
      · have q1 : ((c.toNat : Int) == 10) = true := by subst h10; rfl
        have q2 : ((c.toNat : Int) != 10) = false := by subst h10; rfl
        go_wp2_with fail
        go_quiet (fail)
        go_wp2_with fail
        refine bodyPost_end (v := .tuple #[]) (by kernel_rfl) rfl ?_
        refine ⟨rfl, ?_, hm.out.2.1.drewN _⟩
        rw [takeWhile_at hkj hjT hm.out.2.2 (fun c' hc' => by rw [C.out] at hc'; cases hc'; simp [h10]), Nat.add_sub_cancel' hkj]
        exact hm.out.1.drewN _
      · have hn10 : c.toNat ≠ 10 := fun e => h10 (UInt8.toNat_inj.1 (by rw [e]; rfl))
        have q1 : ((c.toNat : Int) == 10) = false := beqF hn10
        have q2 : ((c.toNat : Int) != 10) = true := by rw [bne, q1]; rfl
        obtain ⟨m, hm'⟩ : ∃ m, m = j + 1 := ⟨_, rfl⟩
        have hw : (j : Int) + 1 = (m : Int) := by omega
        have Hm := Lib.hid hm'
        clear hm' hn10
        go_wp2_with fail
        go_quiet (fail)
        have hx := hm.out.1.drewN nq
        have c0 := hx.c0
        have c1 := hx.c1
        have f1 := hx.fr 1
        have N := Lib.hid (show Sc ((wr.drewN nq).setCell ⟨p, 1, none⟩ (.int .i64 m)) B p T m line first v out ∧ FrP p w ((wr.drewN nq).setCell ⟨p, 1, none⟩ (.int .i64 m)) from
          ⟨hx.setAt m (by have := Hm.out; omega) (by have := Hm.out; omega), (hm.out.2.1.drewN nq).setCell (p := ⟨p, 1, none⟩) (fun _ => rfl) _⟩)
        clear hx
        go_wp2_with fail
        generalize (wr.drewN nq).setCell ⟨p, 1, none⟩ (.int .i64 m) = w1 at N ⊢
        go_roundw
        case rel => exact ⟨m, by have := Hm.out; omega, by have := Hm.out; omega, Lib.hid ⟨N.out.1, N.out.2, fun i y h1 h2 hy => by
          have := Hm.out
          by_cases hij : i = j
          · subst hij; rw [C.out] at hy; cases hy; exact dec_of h10
          · exact hm.out.2.2 i y h1 (by omega) hy⟩⟩
        case measure => rw [N.out.1.pos, Ps.out]; have := Hm.out; omega
    · have d1 : decide ((j : Int) < (T.length : Int)) = false := dec_not (by omega)
      have d0 : ¬ ((j : Int) < ((bs T).size : Int)) := by omega
      go_wp2_with fail
      go_quiet (fail)
      go_wp2_with fail
      refine bodyPost_end (v := .tuple #[]) (by kernel_rfl) rfl ?_
      refine ⟨rfl, ?_, hm.out.2.1.drewN _⟩
      rw [takeWhile_at hkj hjT hm.out.2.2 (fun c' hc' => by have := (List.getElem?_eq_some_iff.1 hc').1; omega), Nat.add_sub_cancel' hkj]
      exact hm.out.1.drewN _

set_option maxHeartbeats 1000000 in
theorem wordMayEnd_any {w : World} (l : List UInt8) : Calls Tryz.prog 87 #[.string (bs l)] w fun e w' => e = .returned (.bool (endWords.contains l)) ∧ w = w' := by
  by_cases h : endWords.contains l = true
  · rw [h]
    have hm : l ∈ endWords := by simpa using h
    clear h
    simp only [endWords, List.mem_cons, List.not_mem_nil, or_false] at hm
    rcases hm with rfl | rfl | rfl | rfl | rfl | rfl | rfl | rfl | rfl
    · have e0 : ((bs [116, 114, 117, 101]).toList == [116, 114, 117, 101]) = true := by rw [bs_list]; decide
      have e1 : ((bs [116, 114, 117, 101]).toList == [102, 97, 108, 115, 101]) = false := by rw [bs_list]; decide
      have e2 : ((bs [116, 114, 117, 101]).toList == [110, 105, 108]) = false := by rw [bs_list]; decide
      have e3 : ((bs [116, 114, 117, 101]).toList == [98, 114, 101, 97, 107]) = false := by rw [bs_list]; decide
      have e4 : ((bs [116, 114, 117, 101]).toList == [99, 111, 110, 116, 105, 110, 117, 101]) = false := by rw [bs_list]; decide
      have e5 : ((bs [116, 114, 117, 101]).toList == [114, 101, 116, 117, 114, 110]) = false := by rw [bs_list]; decide
      have e6 : ((bs [116, 114, 117, 101]).toList == [105, 110, 116]) = false := by rw [bs_list]; decide
      have e7 : ((bs [116, 114, 117, 101]).toList == [98, 111, 111, 108]) = false := by rw [bs_list]; decide
      have e8 : ((bs [116, 114, 117, 101]).toList == [115, 116, 114, 105, 110, 103]) = false := by rw [bs_list]; decide
      go_enter Tryz.func87, Tryz.ntmps87
      go_wp2
      go_ret
      exact ⟨rfl, rfl⟩
    · have e0 : ((bs [102, 97, 108, 115, 101]).toList == [116, 114, 117, 101]) = false := by rw [bs_list]; decide
      have e1 : ((bs [102, 97, 108, 115, 101]).toList == [102, 97, 108, 115, 101]) = true := by rw [bs_list]; decide
      have e2 : ((bs [102, 97, 108, 115, 101]).toList == [110, 105, 108]) = false := by rw [bs_list]; decide
      have e3 : ((bs [102, 97, 108, 115, 101]).toList == [98, 114, 101, 97, 107]) = false := by rw [bs_list]; decide
      have e4 : ((bs [102, 97, 108, 115, 101]).toList == [99, 111, 110, 116, 105, 110, 117, 101]) = false := by rw [bs_list]; decide
      have e5 : ((bs [102, 97, 108, 115, 101]).toList == [114, 101, 116, 117, 114, 110]) = false := by rw [bs_list]; decide
      have e6 : ((bs [102, 97, 108, 115, 101]).toList == [105, 110, 116]) = false := by rw [bs_list]; decide
      have e7 : ((bs [102, 97, 108, 115, 101]).toList == [98, 111, 111, 108]) = false := by rw [bs_list]; decide
      have e8 : ((bs [102, 97, 108, 115, 101]).toList == [115, 116, 114, 105, 110, 103]) = false := by rw [bs_list]; decide
      go_enter Tryz.func87, Tryz.ntmps87
      go_wp2
      go_ret
      exact ⟨rfl, rfl⟩
    · have e0 : ((bs [110, 105, 108]).toList == [116, 114, 117, 101]) = false := by rw [bs_list]; decide
      have e1 : ((bs [110, 105, 108]).toList == [102, 97, 108, 115, 101]) = false := by rw [bs_list]; decide
      have e2 : ((bs [110, 105, 108]).toList == [110, 105, 108]) = true := by rw [bs_list]; decide
      have e3 : ((bs [110, 105, 108]).toList == [98, 114, 101, 97, 107]) = false := by rw [bs_list]; decide
      have e4 : ((bs [110, 105, 108]).toList == [99, 111, 110, 116, 105, 110, 117, 101]) = false := by rw [bs_list]; decide
      have e5 : ((bs [110, 105, 108]).toList == [114, 101, 116, 117, 114, 110]) = false := by rw [bs_list]; decide
      have e6 : ((bs [110, 105, 108]).toList == [105, 110, 116]) = false := by rw [bs_list]; decide
      have e7 : ((bs [110, 105, 108]).toList == [98, 111, 111, 108]) = false := by rw [bs_list]; decide
      have e8 : ((bs [110, 105, 108]).toList == [115, 116, 114, 105, 110, 103]) = false := by rw [bs_list]; decide
      go_enter Tryz.func87, Tryz.ntmps87
      go_wp2
      go_ret
      exact ⟨rfl, rfl⟩
    · have e0 : ((bs [98, 114, 101, 97, 107]).toList == [116, 114, 117, 101]) = false := by rw [bs_list]; decide
      have e1 : ((bs [98, 114, 101, 97, 107]).toList == [102, 97, 108, 115, 101]) = false := by rw [bs_list]; decide
      have e2 : ((bs [98, 114, 101, 97, 107]).toList == [110, 105, 108]) = false := by rw [bs_list]; decide
      have e3 : ((bs [98, 114, 101, 97, 107]).toList == [98, 114, 101, 97, 107]) = true := by rw [bs_list]; decide
      have e4 : ((bs [98, 114, 101, 97, 107]).toList == [99, 111, 110, 116, 105, 110, 117, 101]) = false := by rw [bs_list]; decide
      have e5 : ((bs [98, 114, 101, 97, 107]).toList == [114, 101, 116, 117, 114, 110]) = false := by rw [bs_list]; decide
      have e6 : ((bs [98, 114, 101, 97, 107]).toList == [105, 110, 116]) = false := by rw [bs_list]; decide
      have e7 : ((bs [98, 114, 101, 97, 107]).toList == [98, 111, 111, 108]) = false := by rw [bs_list]; decide
      have e8 : ((bs [98, 114, 101, 97, 107]).toList == [115, 116, 114, 105, 110, 103]) = false := by rw [bs_list]; decide
      go_enter Tryz.func87, Tryz.ntmps87
      go_wp2
      go_ret
      exact ⟨rfl, rfl⟩
    · have e0 : ((bs [99, 111, 110, 116, 105, 110, 117, 101]).toList == [116, 114, 117, 101]) = false := by rw [bs_list]; decide
      have e1 : ((bs [99, 111, 110, 116, 105, 110, 117, 101]).toList == [102, 97, 108, 115, 101]) = false := by rw [bs_list]; decide
      have e2 : ((bs [99, 111, 110, 116, 105, 110, 117, 101]).toList == [110, 105, 108]) = false := by rw [bs_list]; decide
      have e3 : ((bs [99, 111, 110, 116, 105, 110, 117, 101]).toList == [98, 114, 101, 97, 107]) = false := by rw [bs_list]; decide
      have e4 : ((bs [99, 111, 110, 116, 105, 110, 117, 101]).toList == [99, 111, 110, 116, 105, 110, 117, 101]) = true := by rw [bs_list]; decide
      have e5 : ((bs [99, 111, 110, 116, 105, 110, 117, 101]).toList == [114, 101, 116, 117, 114, 110]) = false := by rw [bs_list]; decide
      have e6 : ((bs [99, 111, 110, 116, 105, 110, 117, 101]).toList == [105, 110, 116]) = false := by rw [bs_list]; decide
      have e7 : ((bs [99, 111, 110, 116, 105, 110, 117, 101]).toList == [98, 111, 111, 108]) = false := by rw [bs_list]; decide
      have e8 : ((bs [99, 111, 110, 116, 105, 110, 117, 101]).toList == [115, 116, 114, 105, 110, 103]) = false := by rw [bs_list]; decide
      go_enter Tryz.func87, Tryz.ntmps87
      go_wp2
      go_ret
      exact ⟨rfl, rfl⟩
    · have e0 : ((bs [114, 101, 116, 117, 114, 110]).toList == [116, 114, 117, 101]) = false := by rw [bs_list]; decide
      have e1 : ((bs [114, 101, 116, 117, 114, 110]).toList == [102, 97, 108, 115, 101]) = false := by rw [bs_list]; decide
      have e2 : ((bs [114, 101, 116, 117, 114, 110]).toList == [110, 105, 108]) = false := by rw [bs_list]; decide
      have e3 : ((bs [114, 101, 116, 117, 114, 110]).toList == [98, 114, 101, 97, 107]) = false := by rw [bs_list]; decide
      have e4 : ((bs [114, 101, 116, 117, 114, 110]).toList == [99, 111, 110, 116, 105, 110, 117, 101]) = false := by rw [bs_list]; decide
      have e5 : ((bs [114, 101, 116, 117, 114, 110]).toList == [114, 101, 116, 117, 114, 110]) = true := by rw [bs_list]; decide
      have e6 : ((bs [114, 101, 116, 117, 114, 110]).toList == [105, 110, 116]) = false := by rw [bs_list]; decide
      have e7 : ((bs [114, 101, 116, 117, 114, 110]).toList == [98, 111, 111, 108]) = false := by rw [bs_list]; decide
      have e8 : ((bs [114, 101, 116, 117, 114, 110]).toList == [115, 116, 114, 105, 110, 103]) = false := by rw [bs_list]; decide
      go_enter Tryz.func87, Tryz.ntmps87
      go_wp2
      go_ret
      exact ⟨rfl, rfl⟩
    · have e0 : ((bs [105, 110, 116]).toList == [116, 114, 117, 101]) = false := by rw [bs_list]; decide
      have e1 : ((bs [105, 110, 116]).toList == [102, 97, 108, 115, 101]) = false := by rw [bs_list]; decide
      have e2 : ((bs [105, 110, 116]).toList == [110, 105, 108]) = false := by rw [bs_list]; decide
      have e3 : ((bs [105, 110, 116]).toList == [98, 114, 101, 97, 107]) = false := by rw [bs_list]; decide
      have e4 : ((bs [105, 110, 116]).toList == [99, 111, 110, 116, 105, 110, 117, 101]) = false := by rw [bs_list]; decide
      have e5 : ((bs [105, 110, 116]).toList == [114, 101, 116, 117, 114, 110]) = false := by rw [bs_list]; decide
      have e6 : ((bs [105, 110, 116]).toList == [105, 110, 116]) = true := by rw [bs_list]; decide
      have e7 : ((bs [105, 110, 116]).toList == [98, 111, 111, 108]) = false := by rw [bs_list]; decide
      have e8 : ((bs [105, 110, 116]).toList == [115, 116, 114, 105, 110, 103]) = false := by rw [bs_list]; decide
      go_enter Tryz.func87, Tryz.ntmps87
      go_wp2
      go_ret
      exact ⟨rfl, rfl⟩
    · have e0 : ((bs [98, 111, 111, 108]).toList == [116, 114, 117, 101]) = false := by rw [bs_list]; decide
      have e1 : ((bs [98, 111, 111, 108]).toList == [102, 97, 108, 115, 101]) = false := by rw [bs_list]; decide
      have e2 : ((bs [98, 111, 111, 108]).toList == [110, 105, 108]) = false := by rw [bs_list]; decide
      have e3 : ((bs [98, 111, 111, 108]).toList == [98, 114, 101, 97, 107]) = false := by rw [bs_list]; decide
      have e4 : ((bs [98, 111, 111, 108]).toList == [99, 111, 110, 116, 105, 110, 117, 101]) = false := by rw [bs_list]; decide
      have e5 : ((bs [98, 111, 111, 108]).toList == [114, 101, 116, 117, 114, 110]) = false := by rw [bs_list]; decide
      have e6 : ((bs [98, 111, 111, 108]).toList == [105, 110, 116]) = false := by rw [bs_list]; decide
      have e7 : ((bs [98, 111, 111, 108]).toList == [98, 111, 111, 108]) = true := by rw [bs_list]; decide
      have e8 : ((bs [98, 111, 111, 108]).toList == [115, 116, 114, 105, 110, 103]) = false := by rw [bs_list]; decide
      go_enter Tryz.func87, Tryz.ntmps87
      go_wp2
      go_ret
      exact ⟨rfl, rfl⟩
    · have e0 : ((bs [115, 116, 114, 105, 110, 103]).toList == [116, 114, 117, 101]) = false := by rw [bs_list]; decide
      have e1 : ((bs [115, 116, 114, 105, 110, 103]).toList == [102, 97, 108, 115, 101]) = false := by rw [bs_list]; decide
      have e2 : ((bs [115, 116, 114, 105, 110, 103]).toList == [110, 105, 108]) = false := by rw [bs_list]; decide
      have e3 : ((bs [115, 116, 114, 105, 110, 103]).toList == [98, 114, 101, 97, 107]) = false := by rw [bs_list]; decide
      have e4 : ((bs [115, 116, 114, 105, 110, 103]).toList == [99, 111, 110, 116, 105, 110, 117, 101]) = false := by rw [bs_list]; decide
      have e5 : ((bs [115, 116, 114, 105, 110, 103]).toList == [114, 101, 116, 117, 114, 110]) = false := by rw [bs_list]; decide
      have e6 : ((bs [115, 116, 114, 105, 110, 103]).toList == [105, 110, 116]) = false := by rw [bs_list]; decide
      have e7 : ((bs [115, 116, 114, 105, 110, 103]).toList == [98, 111, 111, 108]) = false := by rw [bs_list]; decide
      have e8 : ((bs [115, 116, 114, 105, 110, 103]).toList == [115, 116, 114, 105, 110, 103]) = true := by rw [bs_list]; decide
      go_enter Tryz.func87, Tryz.ntmps87
      go_wp2
      go_ret
      exact ⟨rfl, rfl⟩
  · have hf : endWords.contains l = false := by simpa using h
    rw [hf]
    have hm : l ∉ endWords := by simpa using h
    simp only [endWords, List.mem_cons, List.not_mem_nil, or_false, not_or] at hm
    obtain ⟨n0, n1, n2, n3, n4, n5, n6, n7, n8⟩ := hm
    have e0 : ((bs l).toList == [116, 114, 117, 101]) = false := by rw [bs_list]; exact beq_eq_false_iff_ne.2 n0
    have e1 : ((bs l).toList == [102, 97, 108, 115, 101]) = false := by rw [bs_list]; exact beq_eq_false_iff_ne.2 n1
    have e2 : ((bs l).toList == [110, 105, 108]) = false := by rw [bs_list]; exact beq_eq_false_iff_ne.2 n2
    have e3 : ((bs l).toList == [98, 114, 101, 97, 107]) = false := by rw [bs_list]; exact beq_eq_false_iff_ne.2 n3
    have e4 : ((bs l).toList == [99, 111, 110, 116, 105, 110, 117, 101]) = false := by rw [bs_list]; exact beq_eq_false_iff_ne.2 n4
    have e5 : ((bs l).toList == [114, 101, 116, 117, 114, 110]) = false := by rw [bs_list]; exact beq_eq_false_iff_ne.2 n5
    have e6 : ((bs l).toList == [105, 110, 116]) = false := by rw [bs_list]; exact beq_eq_false_iff_ne.2 n6
    have e7 : ((bs l).toList == [98, 111, 111, 108]) = false := by rw [bs_list]; exact beq_eq_false_iff_ne.2 n7
    have e8 : ((bs l).toList == [115, 116, 114, 105, 110, 103]) = false := by rw [bs_list]; exact beq_eq_false_iff_ne.2 n8
    clear n0 n1 n2 n3 n4 n5 n6 n7 n8 h hf
    go_enter Tryz.func87, Tryz.ntmps87
    go_wp2
    go_ret
    exact ⟨rfl, rfl⟩
end Go.Proofs.YtmphiefdoaihhaaGreatDoor.Tk

/-
  Package token: lacksSemi, skip.
-/
namespace Go.Proofs.YtmphiefdoaihhaaGreatDoor.Tk
open Go.RowKit
set_option maxRecDepth 100000

set_option maxRecDepth 100000 in
set_option maxHeartbeats 2000000 in
theorem lacksSemi_any {w : World} {B p : Nat} {T : List UInt8} {k line first : Nat} {v : Value} {out : List Tok} (h : Sc w B p T k line first v out) :
    Calls Tryz.prog 55 #[.pointer (some ⟨p, 0, none⟩)] w fun e w' => e = .returned (.bool (lastEnds out)) ∧ Up w w' := by
  obtain ⟨A, c, rfl, hp⟩ := h.own.reads.parts
  have c4 := h.c4
  have f4 := h.few
  by_cases h0 : out = []
  · subst h0
    go_enter Tryz.func55, Tryz.ntmps55
    go_wp2
    go_ret
    exact ⟨rfl, Fr.refl _ _⟩
  · obtain ⟨n, hn⟩ : ∃ n, n = out.length := ⟨_, rfl⟩
    have hn0 : 0 < n := by rw [hn]; exact List.length_pos_iff.2 h0
    obtain ⟨m, hm⟩ : ∃ m, n = m + 1 := ⟨n - 1, by omega⟩
    have hmo : m < out.length := by omega
    obtain ⟨b, o, cs, rfl, hG, hb, rfl, hcl, hx⟩ := hp.elem hmo
    clear hG hcl
    have hle : lastEnds out = mayEnd out[m] := by
      unfold lastEnds
      rw [List.getLast?_eq_getElem?, show out.length - 1 = m by omega, List.getElem?_eq_getElem hmo]
    rw [hle]
    obtain ⟨t, ht⟩ : ∃ t, t = out[m] := ⟨_, rfl⟩
    rw [← ht] at hx ⊢
    have x0 := hx 0 _ rfl
    have x1 := hx 1 _ rfl
    have x2 := hx 2 _ rfl
    have x3 := hx 3 _ rfl
    have x4 := hx 4 _ rfl
    rw [Nat.add_zero] at x0
    rw [← hn] at c4 f4
    have z0 : ((n : Int) == 0) = false := by simp; omega
    have hw : (n : Int) - 1 = (m : Int) := by rw [hm]; simp
    have hw2 : IntKind.i64.wrap (m : Int) = (m : Int) := IntWalk.i64_in _ (by omega)
    have hmn : (m : Int) < (n : Int) := Int.ofNat_lt.2 (by rw [hm]; exact Nat.lt_succ_self m)
    have hm0 : (0 : Int) ≤ (m : Int) := Int.natCast_nonneg m
    have hmN : m < n := by rw [hm]; exact Nat.lt_succ_self m
    have hpl := h.lt
    have hia : ∀ w, (Instr.indexAt 43 (.slice (some ⟨b, o, none⟩) n c) (.int .i64 m)).run Tryz.prog w = .ok (.pointer (some ⟨b, o + m * 5, none⟩)) w := by
      intro w
      rw [run_indexAt_slice (h := by kernel_rfl), if_pos ⟨hm0, hmn⟩, show (sizeOf (Tryz.prog.elem 43)).run Tryz.prog w = .ok 5 w from by kernel_rfl]
      simp [Result.andThen, Addr.add]
    clear hx hp h hle ht hn hm hmo h0
    go_enter Tryz.func55, Tryz.ntmps55
    go_wp2_with fail
    go_region_held3 (fun W' => W'.cell? ⟨p, 4, none⟩ = some (.slice (some ⟨b, o, none⟩) n c) ∧ W'.cell? ⟨b, o + m * 5, none⟩ = some (.int .i64 t.kind) ∧ W'.cell? ⟨b, o + m * 5 + 1, none⟩ = some (.string (bs t.text)) ∧
        W'.cell? ⟨b, o + m * 5 + 2, none⟩ = some (.int .i64 t.n) ∧ W'.cell? ⟨b, o + m * 5 + 3, none⟩ = some (.int .i64 t.line) ∧ W'.cell? ⟨b, o + m * 5 + 4, none⟩ = some (.int .i64 t.col))
      (first | exact ⟨c4, x0, x1, x2, x3, x4⟩ | go_keep) (fail)
    have u1 : Up w (w.alloc (.cells #[.int .i64 t.kind, .string (bs t.text), .int .i64 t.n, .int .i64 t.line, .int .i64 t.col] 45)).drew := ((Fr.refl (fun _ => False) w).alloc _).drew
    have y0 : (w.alloc (.cells #[.int .i64 t.kind, .string (bs t.text), .int .i64 t.n, .int .i64 t.line, .int .i64 t.col] 45)).drew.cell? ⟨w.heap.size, 0, none⟩ = some (.int .i64 t.kind) := by
      show (w.alloc _).cell? _ = _
      rw [cell_of_row _ _ _ _ _ _ (heap_alloc_new _ _)]; rfl
    have y1 : (w.alloc (.cells #[.int .i64 t.kind, .string (bs t.text), .int .i64 t.n, .int .i64 t.line, .int .i64 t.col] 45)).drew.cell? ⟨w.heap.size, 1, none⟩ = some (.string (bs t.text)) := by
      show (w.alloc _).cell? _ = _
      rw [cell_of_row _ _ _ _ _ _ (heap_alloc_new _ _)]; rfl
    generalize (w.alloc (.cells #[.int .i64 t.kind, .string (bs t.text), .int .i64 t.n, .int .i64 t.line, .int .i64 t.col] 45)).drew = w1 at *
    have U := Lib.hid u1
    obtain ⟨kd, tx, tn, tl, tc⟩ := t
    simp only at y0 y1 ⊢
    clear u1 c4 x0 x1 x2 x3 x4 z0 hw hw2 hia
    generalize w.heap.size = q at *
    by_cases hk : kd = 2
    · subst hk
      have e : mayEnd ⟨2, tx, tn, tl, tc⟩ = true := rfl
      go_wp2_with fail
      go_ret
      exact ⟨by first | rfl | (rw [e]; rfl), U.out⟩
    by_cases hk : kd = 4
    · subst hk
      have e : mayEnd ⟨4, tx, tn, tl, tc⟩ = true := rfl
      go_wp2_with fail
      go_ret
      exact ⟨by first | rfl | (rw [e]; rfl), U.out⟩
    by_cases hk : kd = 5
    · subst hk
      have e : mayEnd ⟨5, tx, tn, tl, tc⟩ = true := rfl
      go_wp2_with fail
      go_ret
      exact ⟨by first | rfl | (rw [e]; rfl), U.out⟩
    by_cases hk : kd = 3
    · subst hk
      obtain ⟨bb, hbb⟩ : ∃ bb, bb = endWords.contains tx := ⟨_, rfl⟩
      have e : mayEnd ⟨3, tx, tn, tl, tc⟩ = bb := by rw [hbb]; simp [mayEnd]
      have HB := Lib.hid hbb
      clear hbb
      go_wp2_with fail
      refine (wordMayEnd_any tx).mono ?_
      rintro e' w' ⟨rfl, rfl⟩
      rw [← HB.out]
      go_wp2_with fail
      go_ret
      exact ⟨by first | rfl | (rw [e]; rfl), U.out⟩
    by_cases hk : kd = 6
    · subst hk
      have e : mayEnd ⟨6, tx, tn, tl, tc⟩ = (tx == [41] || tx == [93] || tx == [125]) := by simp [mayEnd]
      have E := Lib.hid e
      clear e
      have k1 : ((bs tx).toList == [41]) = (tx == [41]) := by rw [bs_list]
      have k2 : ((bs tx).toList == [93]) = (tx == [93]) := by rw [bs_list]
      have k3 : ((bs tx).toList == [125]) = (tx == [125]) := by rw [bs_list]
      cases h1 : (tx == [41])
      · rw [h1] at k1
        cases h2 : (tx == [93])
        · rw [h2] at k2
          cases h3 : (tx == [125])
          · rw [h3] at k3
            have e : mayEnd ⟨6, tx, tn, tl, tc⟩ = false := by rw [E.out, h1, h2, h3]; rfl
            clear h1 h2 h3
            go_wp2_with fail
            go_ret
            exact ⟨by first | rfl | (rw [e]; rfl), U.out⟩
          · rw [h3] at k3
            have e : mayEnd ⟨6, tx, tn, tl, tc⟩ = true := by rw [E.out, h1, h2, h3]; rfl
            clear h1 h2 h3
            go_wp2_with fail
            go_ret
            exact ⟨by first | rfl | (rw [e]; rfl), U.out⟩
        · rw [h2] at k2
          have e : mayEnd ⟨6, tx, tn, tl, tc⟩ = true := by rw [E.out, h1, h2]; rfl
          clear h1 h2
          go_wp2_with fail
          go_ret
          exact ⟨by first | rfl | (rw [e]; rfl), U.out⟩
      · rw [h1] at k1
        have e : mayEnd ⟨6, tx, tn, tl, tc⟩ = true := by rw [E.out, h1]; rfl
        clear h1
        go_wp2_with fail
        go_ret
        exact ⟨by first | rfl | (rw [e]; rfl), U.out⟩
    · rename_i n2 n4 n5 n3
      have z2 : ((kd : Int) == 2) = false := by simp; omega
      have z3 : ((kd : Int) == 3) = false := by simp; omega
      have z4 : ((kd : Int) == 4) = false := by simp; omega
      have z5 : ((kd : Int) == 5) = false := by simp; omega
      have z6 : ((kd : Int) == 6) = false := by simp; omega
      have e : mayEnd ⟨kd, tx, tn, tl, tc⟩ = false := by simp [mayEnd, n2, n3, n4, n5, hk]
      clear n2 n3 n4 n5 hk
      go_wp2_with fail
      go_ret
      exact ⟨by first | rfl | (rw [e]; rfl), U.out⟩

theorem beqU (c d : UInt8) : ((c.toNat : Int) == (d.toNat : Int)) = decide (c = d) := by
  by_cases h : c = d
  · subst h; simp
  · rw [dec_not h, beq_eq_false_iff_ne]
    exact fun e => h (UInt8.toNat_inj.1 (Int.ofNat_inj.1 e))

def stOf (T : List UInt8) (k line first : Nat) (out : List Tok) : St := ⟨T.drop k, line, k - first + 1, out⟩

/-- Where skip stands still. -/
def Stop (l : List UInt8) (out : List Tok) : Prop := ∀ b r, l = b :: r → (b = 10 → lastEnds out = true) ∧ b ≠ 32 ∧ b ≠ 9 ∧ b ≠ 13 ∧ [47, 47].isPrefixOf l = false

theorem drop_at {T : List UInt8} {k : Nat} {c : UInt8} (h : T[k]? = some c) : T.drop k = c :: T.drop (k + 1) := by
  have hk := (List.getElem?_eq_some_iff.1 h).1
  rw [List.drop_eq_getElem_cons hk, (List.getElem?_eq_some_iff.1 h).2]

theorem step_line {T : List UInt8} {k line first : Nat} {out : List Tok} (h : T[k]? = some 10) (he : lastEnds out = false) : step (stOf T k line first out) = .inl (stOf T (k + 1) (line + 1) (k + 1) out) := by
  simp [step, stOf, drop_at h, he]
theorem step_blank {T : List UInt8} {k line first : Nat} {c : UInt8} {out : List Tok} (h : T[k]? = some c) (hf : first ≤ k) (hc : c = 32 ∨ c = 9 ∨ c = 13) : step (stOf T k line first out) = .inl (stOf T (k + 1) line first out) := by
  have h10 : c ≠ 10 := by rcases hc with rfl | rfl | rfl <;> decide
  simp only [step, stOf, drop_at h, if_neg h10, if_pos hc]
  rw [show k - first + 1 + 1 = k + 1 - first + 1 by omega]
theorem step_comment {T : List UInt8} {k line first : Nat} {out : List Tok} (hf : first ≤ k) (hp : [47, 47].isPrefixOf (T.drop k) = true) :
    step (stOf T k line first out) = .inl (stOf T (k + ((T.drop k).takeWhile (fun c => c ≠ 10)).length) line first out) := by
  obtain ⟨r, hr⟩ := List.isPrefixOf_iff_prefix.1 hp
  have hd : T.drop k = 47 :: 47 :: r := hr.symm
  unfold step stOf
  rw [← List.drop_drop]
  generalize T.drop k = l at *
  subst hd
  simp only [if_neg (show ¬ (47 : UInt8) = 10 by decide), if_neg (show ¬ ((47 : UInt8) = 32 ∨ (47 : UInt8) = 9 ∨ (47 : UInt8) = 13) by decide), hp, if_true]
  congr 2
  omega

structure Skip (w w' : World) (B p : Nat) (T : List UInt8) (k line first : Nat) (v : Value) (out : List Tok) (k' line' first' : Nat) : Prop where
  sc : Sc w' B p T k' line' first' v out
  fr : FrP p w w'
  le : k ≤ k'
  lex : ∀ R, Lex (stOf T k' line' first' out) R → Lex (stOf T k line first out) R

theorem Skip.go {w w' w2 : World} {B p : Nat} {T : List UInt8} {k line first : Nat} {v : Value} {out : List Tok} {k' line' first' k2 l2 f2 : Nat} (h : Skip w w' B p T k line first v out k' line' first')
    (hs : Sc w2 B p T k2 l2 f2 v out) (hf : FrP p w' w2) (hle : k' ≤ k2) (hst : step (stOf T k' line' first' out) = .inl (stOf T k2 l2 f2 out)) : Skip w w2 B p T k line first v out k2 l2 f2 :=
  ⟨hs, h.fr.trans hf (fun _ _ e => e), Nat.le_trans h.le hle, fun R hR => h.lex R (hR.next hst)⟩

theorem Sc.line2 {w : World} {B p : Nat} {T : List UInt8} {m line first : Nat} {v : Value} {out : List Tok} (h : Sc w B p T m line first v out) (l2 : Nat) (hl : l2 ≤ m + 1) :
    Sc ((w.setCell ⟨p, 2, none⟩ (.int .i64 l2)).setCell ⟨p, 3, none⟩ (.int .i64 m)).drew B p T m l2 m v out ∧ FrP p w ((w.setCell ⟨p, 2, none⟩ (.int .i64 l2)).setCell ⟨p, 3, none⟩ (.int .i64 m)).drew :=
  have f := ((fr_set (w := w) (p := p) 2 (.int .i64 l2)).setCell (p := ⟨p, 3, none⟩) (fun _ => rfl) (.int .i64 m)).drew
  ⟨h.put m l2 m f (by show ((w.setCell _ _).setCell _ _).heap[p]? = _; rw [blk_set (blk_set h.obj 2 _) 3 _]; rfl) h.kT (Nat.le_refl _) hl, f⟩
theorem Sc.line2' {w : World} {B p : Nat} {T : List UInt8} {m line first : Nat} {v : Value} {out : List Tok} (h : Sc w B p T m line first v out) (l2 : Nat) (hl : l2 ≤ m + 1) :
    Sc ((w.setCell ⟨p, 3, none⟩ (.int .i64 m)).setCell ⟨p, 2, none⟩ (.int .i64 l2)).drew B p T m l2 m v out ∧ FrP p w ((w.setCell ⟨p, 3, none⟩ (.int .i64 m)).setCell ⟨p, 2, none⟩ (.int .i64 l2)).drew :=
  have f := ((fr_set (w := w) (p := p) 3 (.int .i64 m)).setCell (p := ⟨p, 2, none⟩) (fun _ => rfl) (.int .i64 l2)).drew
  ⟨h.put m l2 m f (by show ((w.setCell _ _).setCell _ _).heap[p]? = _; rw [blk_set (blk_set h.obj 3 _) 2 _]; rfl) h.kT (Nat.le_refl _) hl, f⟩

set_option maxRecDepth 100000 in
set_option maxHeartbeats 2000000 in
theorem skip_any {w : World} {B p : Nat} {T : List UInt8} {k line first : Nat} {v : Value} {out : List Tok} (h : Sc w B p T k line first v out) :
    Calls Tryz.prog 28 #[.pointer (some ⟨p, 0, none⟩)] w fun e w' => e = .returned (.tuple #[]) ∧ ∃ k' line' first', Skip w w' B p T k line first v out k' line' first' ∧ Stop (T.drop k') out := by
  have hT := h.big
  have hsz := bs_size T
  have H := Lib.hid (show Skip w w B p T k line first v out k line first from ⟨h, Fr.refl _ _, Nat.le_refl _, fun _ h => h⟩)
  clear h
  go_enter Tryz.func28, Tryz.ntmps28
  go_wp2_with fail
  go_loopw [] (fun wr => ∃ j lj fj : Nat, Hid (Skip w wr B p T k line first v out j lj fj)) (fun wr => T.length - posOf wr p)
  case atStart => exact ⟨k, line, first, H⟩
  case round =>
    obtain ⟨j, lj, fj, hm⟩ := hrel
    obtain ⟨wo, rfl⟩ : ∃ wo : World, wo = wr := ⟨_, rfl⟩
    have c0 := hm.out.sc.c0
    have c1 := hm.out.sc.c1
    have hjT := hm.out.sc.kT
    have Ps := Lib.hid hm.out.sc.pos
    by_cases hlt : j < T.length
    · obtain ⟨c, hc⟩ : ∃ c, T[j]? = some c := ⟨_, List.getElem?_eq_getElem hlt⟩
      have hjs : j < (bs T).size := by rw [hsz]; exact hlt
      have gj := get_bs hjs hc
      have C := Lib.hid hc
      clear hc
      have d1 : decide ((j : Int) < (T.length : Int)) = true := dec_of (by omega)
      have d0 : ((j : Int) < ((bs T).size : Int)) := by omega
      go_wp2_with fail
      go_quiet (fail)
      have S1 := Lib.hid (hm.out.sc.drewN nq)
      have F1 := Lib.hid (Fr.drewN (Fr.refl (fun b => b = p) wo) nq)
      have P1 : posOf (wo.drewN nq) p = j := S1.out.pos
      generalize wo.drewN nq = w1 at S1 F1 P1 ⊢
      clear c0 c1
      have c0 := S1.out.c0
      have c1 := S1.out.c1
      go_wp2_with fail
      go_quiet (fail)
      have S2 := Lib.hid (S1.out.drewN nq)
      have F2 := Lib.hid (Fr.drewN F1.out nq)
      generalize w1.drewN nq = w2 at S2 F2 ⊢
      clear c0 c1 S1 F1 P1 gj
      have hcl := UInt8.toNat_lt c
      by_cases h10 : c = 10
      · have q1 : ((c.toNat : Int) == 10) = true := by subst h10; rfl
        cases hE : lastEnds out
        · go_wp2_with fail
          refine (lacksSemi_any S2.out).mono ?_
          rintro e w3 ⟨rfl, u3⟩
          rw [hE]
          have S3 := Lib.hid (S2.out.up u3)
          have F3 := Lib.hid (Fr.trans F2.out (Fr.mono u3 (fun _ _ h => h.elim)) (fun _ _ e => e))
          clear u3
          have c1 := S3.out.c1
          have f1 := S3.out.fr 1
          obtain ⟨m, hm'⟩ : ∃ m, m = j + 1 := ⟨_, rfl⟩
          have hw : (j : Int) + 1 = (m : Int) := by omega
          have Hm := Lib.hid hm'
          clear hm'
          go_wp2_with fail
          have S4 := Lib.hid (S3.out.setAt m (by have := Hm.out; omega) (by have := Hm.out; omega))
          have F4 := Lib.hid (F3.out.setCell (p := ⟨p, 1, none⟩) (fun _ => rfl) (.int .i64 m))
          generalize w3.setCell ⟨p, 1, none⟩ (.int .i64 m) = w4 at S4 F4 ⊢
          clear c1 f1
          have c1 := S4.out.c1
          have c2 := S4.out.c2
          have c3 := S4.out.c3
          have f2 := S4.out.fr 2
          have f3 := S4.out.fr 3
          have lnb := S4.out.ln
          obtain ⟨l2, hl2⟩ : ∃ l2, l2 = lj + 1 := ⟨_, rfl⟩
          have hw2 : (lj : Int) + 1 = (l2 : Int) := by omega
          have hw3 : IntKind.i64.wrap (l2 : Int) = (l2 : Int) := IntWalk.i64_in _ (by have := Hm.out; omega)
          have Hl := Lib.hid hl2
          clear hl2
          have N1 := Lib.hid (S4.out.line2 l2 (by have := Hl.out; have := Hm.out; have := hm.out.sc.ln; omega))
          have N2 := Lib.hid (S4.out.line2' l2 (by have := Hl.out; have := Hm.out; have := hm.out.sc.ln; omega))
          have St := Lib.hid (show step (stOf T j lj fj out) = .inl (stOf T m l2 m out) by rw [Hm.out, Hl.out]; exact step_line (by rw [C.out, h10]) hE)
          have M1 : posOf (((w4.setCell ⟨p, 2, none⟩ (.int .i64 l2)).setCell ⟨p, 3, none⟩ (.int .i64 m)).drew) p = m := N1.out.1.pos
          have M2 : posOf (((w4.setCell ⟨p, 3, none⟩ (.int .i64 m)).setCell ⟨p, 2, none⟩ (.int .i64 l2)).drew) p = m := N2.out.1.pos
          have M0 := Lib.hid M1
          have M3 := Lib.hid M2
          clear M1 M2
          go_region
          all_goals go_wp2_with fail
          all_goals go_roundw
          all_goals first
            | exact ⟨m, l2, m, Lib.hid (hm.out.go N1.out.1 (F4.out.trans N1.out.2 (fun _ _ e => e)) (by have := Hm.out; omega) St.out)⟩
            | exact ⟨m, l2, m, Lib.hid (hm.out.go N2.out.1 (F4.out.trans N2.out.2 (fun _ _ e => e)) (by have := Hm.out; omega) St.out)⟩
            | (rw [M0.out, Ps.out]; have := Hm.out; omega)
            | (rw [M3.out, Ps.out]; have := Hm.out; omega)
        · have St := Lib.hid (show Stop (T.drop j) out from fun b r hb => by
            rw [drop_at C.out, List.cons.injEq] at hb
            obtain ⟨rfl, rfl⟩ := hb
            subst h10
            refine ⟨fun _ => hE, by decide, by decide, by decide, ?_⟩
            rw [drop_at C.out]; rfl)
          have np : ([47, 47] : List UInt8).isPrefixOf (T.drop j) = false := by rw [drop_at C.out, h10]; rfl
          have E1 : (bs T).extract j T.length = bs (T.drop j) := by rw [← hsz]; exact bs_from T j
          go_wp2_with fail
          refine (lacksSemi_any S2.out).mono ?_
          rintro e w3 ⟨rfl, u3⟩
          rw [hE]
          have S3 := Lib.hid (S2.out.up u3)
          have F3 := Lib.hid (Fr.trans F2.out (Fr.mono u3 (fun _ _ h => h.elim)) (fun _ _ e => e))
          clear u3
          have c0 := S3.out.c0
          have c1 := S3.out.c1
          have hj0 : (j : Int) ≤ (bs T).size := by omega
          have q2 : ((c.toNat : Int) == 32) = false := by subst h10; rfl
          have q3 : ((c.toNat : Int) == 9) = false := by subst h10; rfl
          have q4 : ((c.toNat : Int) == 13) = false := by subst h10; rfl
          have HP := Lib.hid (show ∀ w, Calls Tryz.prog 56 #[.string (bs (T.drop j)), .string (bs [47, 47])] w fun e w' => e = .returned (.bool false) ∧ w = w' from fun w => by rw [← np]; exact hasPrefix_any _ _)
          clear np
          go_wp2_with fail
          go_quiet ((first | (go_at_call 56; exact quietS (HP.out _))))
          go_wp2_with fail
          refine bodyPost_ret (v := .tuple #[]) ?_ ?_ ?_
          · kernel_rfl
          · rfl
          exact ⟨rfl, j, lj, fj, ⟨S3.out.drewN nq, Fr.drewN (Fr.trans hm.out.fr F3.out (fun _ _ e => e)) _, hm.out.le, hm.out.lex⟩, St.out⟩
      · have hn10 : c.toNat ≠ 10 := fun e => h10 (UInt8.toNat_inj.1 (by rw [e]; rfl))
        have q1 : ((c.toNat : Int) == 10) = false := beqF hn10
        clear hn10
        have c0 := S2.out.c0
        have c1 := S2.out.c1
        have f1 := S2.out.fr 1
        by_cases hb : c = 32 ∨ c = 9 ∨ c = 13
        · obtain ⟨m, hm'⟩ : ∃ m, m = j + 1 := ⟨_, rfl⟩
          have hw : (j : Int) + 1 = (m : Int) := by omega
          have St := Lib.hid (show step (stOf T j lj fj out) = .inl (stOf T m lj fj out) by rw [hm']; exact step_blank C.out hm.out.sc.fk hb)
          have Hm := Lib.hid hm'
          have S4 := Lib.hid (S2.out.setAt m (by omega) (by omega))
          have F4 := Lib.hid (F2.out.setCell (p := ⟨p, 1, none⟩) (fun _ => rfl) (.int .i64 m))
          clear hm'
          have q2 : ((c.toNat : Int) == 32) = decide (c = 32) := beqU c 32
          have q3 : ((c.toNat : Int) == 9) = decide (c = 9) := beqU c 9
          have q4 : ((c.toNat : Int) == 13) = decide (c = 13) := beqU c 13
          rcases hb with rfl | rfl | rfl
          all_goals go_wp2_with fail
          all_goals generalize w2.setCell ⟨p, 1, none⟩ (.int .i64 m) = w4 at S4 F4 ⊢
          all_goals go_roundw
          all_goals first
            | exact ⟨m, lj, fj, Lib.hid (hm.out.go S4.out F4.out (by have := Hm.out; omega) St.out)⟩
            | (rw [S4.out.pos, Ps.out]; have := Hm.out; omega)
        · have q2 : ((c.toNat : Int) == 32) = false := by rw [show ((c.toNat : Int) == 32) = decide (c = 32) from beqU c 32]; exact dec_not (fun h => hb (.inl h))
          have q3 : ((c.toNat : Int) == 9) = false := by rw [show ((c.toNat : Int) == 9) = decide (c = 9) from beqU c 9]; exact dec_not (fun h => hb (.inr (.inl h)))
          have q4 : ((c.toNat : Int) == 13) = false := by rw [show ((c.toNat : Int) == 13) = decide (c = 13) from beqU c 13]; exact dec_not (fun h => hb (.inr (.inr h)))
          have E1 : (bs T).extract j T.length = bs (T.drop j) := by rw [← hsz]; exact bs_from T j
          have hj0 : (j : Int) ≤ (bs T).size := by omega
          have Hb := Lib.hid hb
          have H10 := Lib.hid h10
          clear hb h10
          cases hp : ([47, 47] : List UInt8).isPrefixOf (T.drop j)
          · have St := Lib.hid (show Stop (T.drop j) out from fun b r hd => by
              have hpp := hp
              rw [drop_at C.out, List.cons.injEq] at hd
              obtain ⟨rfl, rfl⟩ := hd
              exact ⟨fun e => absurd e H10.out, fun e => Hb.out (.inl e), fun e => Hb.out (.inr (.inl e)), fun e => Hb.out (.inr (.inr e)), hpp⟩)
            have HP := Lib.hid (show ∀ w, Calls Tryz.prog 56 #[.string (bs (T.drop j)), .string (bs [47, 47])] w fun e w' => e = .returned (.bool false) ∧ w = w' from fun w => by rw [← hp]; exact hasPrefix_any _ _)
            clear hp
            go_wp2_with fail
            go_quiet ((first | (go_at_call 56; exact quietS (HP.out _))))
            go_wp2_with fail
            refine bodyPost_ret (v := .tuple #[]) ?_ ?_ ?_
            · kernel_rfl
            · rfl
            exact ⟨rfl, j, lj, fj, ⟨S2.out.drewN _, Fr.drewN (Fr.trans hm.out.fr F2.out (fun _ _ e => e)) _, hm.out.le, hm.out.lex⟩, St.out⟩
          · have St := Lib.hid (step_comment (line := lj) (out := out) hm.out.sc.fk hp)
            have Hl := Lib.hid (show 0 < ((T.drop j).takeWhile (fun c => c ≠ 10)).length by
              rw [drop_at C.out, List.takeWhile_cons, if_pos (by simpa using H10.out)]
              simp)
            have HP := Lib.hid (show ∀ w, Calls Tryz.prog 56 #[.string (bs (T.drop j)), .string (bs [47, 47])] w fun e w' => e = .returned (.bool true) ∧ w = w' from fun w => by rw [← hp]; exact hasPrefix_any _ _)
            clear hp
            go_wp2_with fail
            go_quiet ((first | (go_at_call 56; exact quietS (HP.out _))))
            go_wp2_with fail
            refine (skipComment_any (S2.out.drewN _)).mono ?_
            rintro e w3 ⟨rfl, s3, f3⟩
            have S3 := Lib.hid s3
            have F3 := Lib.hid (Fr.trans (F2.out.drewN _) f3 (fun _ _ e => e))
            clear s3 f3
            obtain ⟨m, hm'⟩ : ∃ m, m = j + ((T.drop j).takeWhile (fun c => c ≠ 10)).length := ⟨_, rfl⟩
            rw [← hm'] at S3 St
            have Hm := Lib.hid hm'
            clear hm'
            go_wp2_with fail
            go_roundw
            case rel => exact ⟨m, lj, fj, Lib.hid (hm.out.go S3.out F3.out (by have := Hl.out; have := Hm.out; omega) St.out)⟩
            case measure => rw [S3.out.pos, Ps.out]; have := Hl.out; have := Hm.out; have := S3.out.kT; omega
    · have d1 : decide ((j : Int) < (T.length : Int)) = false := dec_not (by omega)
      have d0 : ¬ ((j : Int) < ((bs T).size : Int)) := by omega
      have St := Lib.hid (show Stop (T.drop j) out from fun b r hd => by rw [List.drop_eq_nil_of_le (by omega)] at hd; cases hd)
      go_wp2_with fail
      go_quiet (fail)
      go_wp2_with fail
      refine bodyPost_end (v := .tuple #[]) (by kernel_rfl) rfl ?_
      exact ⟨rfl, j, lj, fj, ⟨hm.out.sc.drewN _, hm.out.fr.drewN _, hm.out.le, hm.out.lex⟩, St.out⟩
end Go.Proofs.YtmphiefdoaihhaaGreatDoor.Tk
