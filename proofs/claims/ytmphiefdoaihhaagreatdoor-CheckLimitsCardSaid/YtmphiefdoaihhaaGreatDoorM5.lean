/-
  Chapter 3 said as functions on lists of bytes: no function of the program is named here.
-/
import Derived.Test.YtmphiefdoaihhaaGreatDoorOwn
import Derived.Test.YtmphiefdoaihhaaGreatDoorProg
import Derived.KernelRfl
import Derived.Deep.MidRow
import Derived.LoopN
import Derived.IntWalk
import Derived.StillTailTactics
import Derived.StillTactics
import Derived.Laws.Rows
import Derived.Deep.DeepCutAuto
import Derived.Deep.CutBlock
import Derived.Deep.RegionHeld3
import Derived.Handy
import Derived.Test.YtmphiefdoaihhaaGreatDoorHeld
namespace Go.Proofs.YtmphiefdoaihhaaGreatDoor.Tk

def letter (n : Nat) : Bool := n == 95 || (decide (97 ≤ n) && decide (n ≤ 122)) || (decide (65 ≤ n) && decide (n ≤ 90))
def digit (n : Nat) : Bool := decide (48 ≤ n) && decide (n ≤ 57)
def inName (b : UInt8) : Bool := letter b.toNat || digit b.toNat

def wordsL : List (List UInt8) := [[116, 121, 112, 101], [115, 116, 114, 117, 99, 116], [105, 110, 116, 101, 114, 102, 97, 99, 101], [102, 117, 110, 99], [118, 97, 114], [105, 102], [101, 108, 115, 101], [102, 111, 114], [98, 114, 101, 97, 107],
  [99, 111, 110, 116, 105, 110, 117, 101], [114, 101, 116, 117, 114, 110], [112, 114, 105, 110, 116], [108, 101, 110], [109, 97, 107, 101], [110, 101, 119], [105, 110, 112, 117, 116], [116, 114, 117, 101], [102, 97, 108, 115, 101], [110, 105, 108],
  [105, 110, 116], [98, 111, 111, 108], [115, 116, 114, 105, 110, 103]]
def isWord (l : List UInt8) : Bool := wordsL.contains l

def nameLen : List UInt8 → Nat
  | [] => 0
  | b :: l => if digit b.toNat then 0 else ((b :: l).takeWhile inName).length

def isName (l : List UInt8) : Bool := !l.isEmpty && (nameLen l == l.length) && !isWord l

structure Tok where
  kind : Nat
  text : List UInt8
  n : Nat
  line : Nat
  col : Nat

def endWords : List (List UInt8) := [[116, 114, 117, 101], [102, 97, 108, 115, 101], [110, 105, 108], [98, 114, 101, 97, 107], [99, 111, 110, 116, 105, 110, 117, 101], [114, 101, 116, 117, 114, 110], [105, 110, 116], [98, 111, 111, 108], [115, 116, 114, 105, 110, 103]]
def mayEnd (t : Tok) : Bool :=
  t.kind == 2 || t.kind == 4 || t.kind == 5 || (t.kind == 3 && endWords.contains t.text) || (t.kind == 6 && (t.text == [41] || t.text == [93] || t.text == [125]))
def lastEnds (out : List Tok) : Bool := match out.getLast? with
  | none => false
  | some t => mayEnd t

/-- What a number is, from its digits on: its value, and how many they are; none: too great. -/
def numGo : List UInt8 → Nat → Nat → Option (Nat × Nat)
  | [], x, k => some (x, k)
  | b :: l, x, k => if digit b.toNat then (if x > (9223372036854775807 - (b.toNat - 48)) / 10 then none else numGo l (x * 10 + (b.toNat - 48)) (k + 1)) else some (x, k)

/-- The byte that the beginning of a text denotes, and how long that beginning is. -/
def denoted : List UInt8 → Option (UInt8 × Nat)
  | [] => none
  | b :: l => if b.toNat < 32 ∨ 126 < b.toNat then none else if b ≠ 92 then some (b, 1) else match l with
    | [] => none
    | c :: _ => if c = 110 then some (10, 2) else if c = 116 then some (9, 2) else if c = 34 ∨ c = 92 then some (c, 2) else none

/-- A text from behind its quote on: what it tells, and how many bytes it has with the closing quote. -/
def txtGo : Nat → List UInt8 → List UInt8 → Nat → Option (List UInt8 × Nat)
  | 0, _, _, _ => none
  | f + 1, l, acc, k => match l with
    | [] => none
    | b :: _ => if b = 34 then (if 2000 < acc.length then none else some (acc, k + 1)) else match denoted l with
      | none => none
      | some (c, n) => txtGo f (l.drop n) (acc ++ [c]) (k + n)

def signsL : List (List UInt8) := [[58, 61], [61, 61], [33, 61], [60, 61], [62, 61], [38, 38], [124, 124], [43], [45], [42], [47], [37], [60], [62], [61], [33], [40], [41], [91], [93], [123], [125], [44], [46]]

inductive Got where
  | tok (kind : Nat) (text : List UInt8) (n used : Nat)
  | err (e : Nat)

/-- The token at the front. -/
def one (l : List UInt8) : Got := match l with
  | [] => .err 10
  | b :: r =>
    if b = 59 then .tok 1 [59] 0 1
    else if letter b.toNat then let t := l.takeWhile inName; .tok (if isWord t then 3 else 2) t 0 t.length
    else if digit b.toNat then match numGo l 0 0 with
      | none => .err 12
      | some (x, k) => .tok 4 (l.take k) x k
    else if b = 34 then match txtGo l.length r [] 1 with
      | none => .err 11
      | some (t, k) => .tok 5 t 0 k
    else match signsL.find? (fun g => g.isPrefixOf l) with
      | none => .err 10
      | some g => .tok 6 g 0 g.length

inductive Res where
  | ok (out : List Tok)
  | bad (line col e : Nat)

structure St where
  l : List UInt8
  line : Nat
  col : Nat
  out : List Tok

def push (σ : St) (kind : Nat) (text : List UInt8) (n used : Nat) : St ⊕ Res :=
  if σ.out.length = 4000 then .inr (.bad σ.line σ.col 6) else .inl ⟨σ.l.drop used, σ.line, σ.col + used, σ.out ++ [⟨kind, text, n, σ.line, σ.col⟩]⟩

def step (σ : St) : St ⊕ Res := match σ.l with
  | [] => if lastEnds σ.out then push σ 1 [59] 0 0 else if σ.out.length = 4000 then .inr (.bad σ.line σ.col 6) else .inr (.ok (σ.out ++ [⟨0, [], 0, σ.line, σ.col⟩]))
  | b :: r =>
    if b = 10 then (if lastEnds σ.out then push σ 1 [59] 0 0 else .inl ⟨r, σ.line + 1, 1, σ.out⟩)
    else if b = 32 ∨ b = 9 ∨ b = 13 then .inl ⟨r, σ.line, σ.col + 1, σ.out⟩
    else if [47, 47].isPrefixOf σ.l then let t := σ.l.takeWhile (fun c => c ≠ 10); .inl ⟨σ.l.drop t.length, σ.line, σ.col + t.length, σ.out⟩
    else match one σ.l with
      | .err e => .inr (.bad σ.line σ.col e)
      | .tok kind text n used => push σ kind text n used

def runN : Nat → St → Option Res
  | 0, _ => none
  | n + 1, σ => match step σ with
    | .inl σ' => runN n σ'
    | .inr r => some r

def Lex (σ : St) (r : Res) : Prop := ∃ n, runN n σ = some r

theorem Lex.next {σ σ' : St} {r : Res} (h : step σ = .inl σ') (hl : Lex σ' r) : Lex σ r := by
  obtain ⟨n, hn⟩ := hl
  exact ⟨n + 1, by simp [runN, h, hn]⟩
theorem Lex.done {σ : St} {r : Res} (h : step σ = .inr r) : Lex σ r := ⟨1, by simp [runN, h]⟩
theorem runN_more : ∀ {n : Nat} {σ : St} {r : Res}, runN n σ = some r → ∀ m, runN (n + m) σ = some r
  | 0, _, _, h => by simp [runN] at h
  | n + 1, σ, r, h => fun m => by
    rw [Nat.add_right_comm]
    simp only [runN] at h ⊢
    cases hs : step σ with
    | inl σ' => rw [hs] at h; exact runN_more (n := n) h m
    | inr r' => rw [hs] at h; exact h
theorem Lex.det {σ : St} {r r' : Res} (h : Lex σ r) (h' : Lex σ r') : r = r' := by
  obtain ⟨n, hn⟩ := h
  obtain ⟨m, hm⟩ := h'
  have a := runN_more hn m
  have b := runN_more hm n
  rw [Nat.add_comm, a] at b
  exact Option.some.inj b

/-- All: chapter 3.1. -/
def LexAll (l : List UInt8) (r : Res) : Prop := if 16384 < l.length then r = .bad 1 1 6 else Lex ⟨l, 1, 1, []⟩ r


def bs (l : List UInt8) : ByteArray := ⟨l.toArray⟩
theorem bs_size (l : List UInt8) : (bs l).size = l.length := by simp [bs, ByteArray.size]
theorem bs_get (l : List UInt8) (k : Nat) (h : k < (bs l).size) : (bs l)[k] = l[k]'(by rw [bs_size] at h; exact h) := by
  show (bs l).data[k] = _
  simp [bs]
theorem bs_of (s : ByteArray) : s = bs s.data.toList := by simp [bs]
theorem bs_list (l : List UInt8) : (bs l).toList = l := by
  have h : ∀ (b : ByteArray), b.toList = b.data.toList := fun b => by first | rfl | exact ByteArray.toList_eq b | simp
  rw [h]; simp [bs]
end Go.Proofs.YtmphiefdoaihhaaGreatDoor.Tk

/-
  Package token: letters, digits, words, names.
-/
namespace Go.Proofs.YtmphiefdoaihhaaGreatDoor.Tk
open Go.RowKit
set_option maxRecDepth 100000

theorem dec_of {p : Prop} [Decidable p] (h : p) : decide p = true := decide_eq_true h
theorem dec_not {p : Prop} [Decidable p] (h : ¬ p) : decide p = false := decide_eq_false h

set_option maxHeartbeats 400000 in
theorem isDigit_any {w : World} (n : Nat) (hn : n < 256) : Calls Tryz.prog 63 #[.int .u8 n] w fun e w' => e = .returned (.bool (digit n)) ∧ w = w' := by
  by_cases h1 : 48 ≤ n
  · by_cases h2 : n ≤ 57
    · have a1 : ((n : Int) ≥ 48) := by omega
      have a2 : ((n : Int) ≤ 57) := by omega
      have e : digit n = true := by simp [digit, h1, h2]
      rw [e]
      go_enter Tryz.func63, Tryz.ntmps63
      go_wp2
      go_ret
      exact ⟨rfl, rfl⟩
    · have a1 : ((n : Int) ≥ 48) := by omega
      have a2 : ¬ ((n : Int) ≤ 57) := by omega
      have e : digit n = false := by simp [digit, h2]
      rw [e]
      go_enter Tryz.func63, Tryz.ntmps63
      go_wp2
      go_ret
      exact ⟨rfl, rfl⟩
  · have a1 : ¬ ((n : Int) ≥ 48) := by omega
    have e : digit n = false := by simp [digit, h1]
    rw [e]
    go_enter Tryz.func63, Tryz.ntmps63
    go_wp2
    go_ret
    exact ⟨rfl, rfl⟩

theorem beqT {n : Nat} {k : Nat} (h : n = k) : ((n : Int) == (k : Int)) = true := by subst h; simp
theorem beqF {n : Nat} {k : Nat} (h : n ≠ k) : ((n : Int) == (k : Int)) = false := by simp; omega

set_option maxHeartbeats 800000 in
theorem isLetter_any {w : World} (n : Nat) (hn : n < 256) : Calls Tryz.prog 61 #[.int .u8 n] w fun e w' => e = .returned (.bool (letter n)) ∧ w = w' := by
  by_cases h0 : n = 95
  · have a0 : ((n : Int) == 95) = true := beqT h0
    have e : letter n = true := by simp [letter, h0]
    rw [e]
    go_enter Tryz.func61, Tryz.ntmps61
    go_wp2
    go_ret
    exact ⟨rfl, rfl⟩
  have a0 : ((n : Int) == 95) = false := beqF h0
  by_cases h1 : 97 ≤ n
  · have a1 : ((n : Int) ≥ 97) := by omega
    have a3 : ((n : Int) ≥ 65) := by omega
    have a4 : ¬ ((n : Int) ≤ 90) := by omega
    by_cases h2 : n ≤ 122
    · have a2 : ((n : Int) ≤ 122) := by omega
      have e : letter n = true := by simp [letter, h1, h2]
      rw [e]
      go_enter Tryz.func61, Tryz.ntmps61
      go_wp2
      go_ret
      exact ⟨rfl, rfl⟩
    · have a2 : ¬ ((n : Int) ≤ 122) := by omega
      have e : letter n = false := by simp [letter, h0, h2]; omega
      rw [e]
      go_enter Tryz.func61, Tryz.ntmps61
      go_wp2
      go_ret
      exact ⟨rfl, rfl⟩
  · have a1 : ¬ ((n : Int) ≥ 97) := by omega
    by_cases h3 : 65 ≤ n
    · have a3 : ((n : Int) ≥ 65) := by omega
      by_cases h4 : n ≤ 90
      · have a4 : ((n : Int) ≤ 90) := by omega
        have e : letter n = true := by simp [letter, h3, h4]
        rw [e]
        go_enter Tryz.func61, Tryz.ntmps61
        go_wp2
        go_ret
        exact ⟨rfl, rfl⟩
      · have a4 : ¬ ((n : Int) ≤ 90) := by omega
        have e : letter n = false := by simp [letter, h0, h1, h4]
        rw [e]
        go_enter Tryz.func61, Tryz.ntmps61
        go_wp2
        go_ret
        exact ⟨rfl, rfl⟩
    · have a3 : ¬ ((n : Int) ≥ 65) := by omega
      have e : letter n = false := by simp [letter, h0, h1, h3]
      rw [e]
      go_enter Tryz.func61, Tryz.ntmps61
      go_wp2
      go_ret
      exact ⟨rfl, rfl⟩

/-- The program's variables: the words, the signs. -/
def wordsV : List Value := wordsL.map (fun x => .string (bs x))
def signsV : List Value := signsL.map (fun x => .string (bs x))
structure Laid (w : World) : Prop where
  words : w.rangeAt 1 0 wordsV
  signs : w.rangeAt 0 0 signsV

theorem range_kept {S : Nat → Prop} {w w' : World} {b o : Nat} {cs : List Value} (h : w.rangeAt b o cs) (hf : Fr S w w') (hb : ¬ S b) : w'.rangeAt b o cs :=
  fun j v hj => (hf.cell (p := ⟨b, o + j, none⟩) (World.block_lt_of_cell? w _ (h j v hj)) hb).trans (h j v hj)
theorem Laid.kept {S : Nat → Prop} {w w' : World} (h : Laid w) (hf : Fr S w w') (h0 : ¬ S 1) (h2 : ¬ S 0) : Laid w' := ⟨range_kept h.words hf h0, range_kept h.signs hf h2⟩

/-- An array of texts, indexed. -/
def ArrIs (t : TypeId) (A0 : Value) (L : List (List UInt8)) : Prop := ∀ (j : Nat) (x : List UInt8), L[j]? = some x → ∀ w, (Instr.index t A0 (.int .i64 j)).run Tryz.prog w = .ok (.string (bs x)) w

set_option maxRecDepth 100000 in
theorem words_idx : ArrIs 127 (.agg wordsV.toArray) wordsL := by
  intro j x h
  have hj : j < 22 := (List.getElem?_eq_some_iff.1 h).1
  match j, hj with
  | 0, _ => simp only [wordsL, List.getElem?_cons_zero, Option.some.injEq] at h; subst h; exact fun _ => by kernel_rfl
  | 1, _ => simp only [wordsL, List.getElem?_cons_zero, List.getElem?_cons_succ, Option.some.injEq] at h; subst h; exact fun _ => by kernel_rfl
  | 2, _ => simp only [wordsL, List.getElem?_cons_zero, List.getElem?_cons_succ, Option.some.injEq] at h; subst h; exact fun _ => by kernel_rfl
  | 3, _ => simp only [wordsL, List.getElem?_cons_zero, List.getElem?_cons_succ, Option.some.injEq] at h; subst h; exact fun _ => by kernel_rfl
  | 4, _ => simp only [wordsL, List.getElem?_cons_zero, List.getElem?_cons_succ, Option.some.injEq] at h; subst h; exact fun _ => by kernel_rfl
  | 5, _ => simp only [wordsL, List.getElem?_cons_zero, List.getElem?_cons_succ, Option.some.injEq] at h; subst h; exact fun _ => by kernel_rfl
  | 6, _ => simp only [wordsL, List.getElem?_cons_zero, List.getElem?_cons_succ, Option.some.injEq] at h; subst h; exact fun _ => by kernel_rfl
  | 7, _ => simp only [wordsL, List.getElem?_cons_zero, List.getElem?_cons_succ, Option.some.injEq] at h; subst h; exact fun _ => by kernel_rfl
  | 8, _ => simp only [wordsL, List.getElem?_cons_zero, List.getElem?_cons_succ, Option.some.injEq] at h; subst h; exact fun _ => by kernel_rfl
  | 9, _ => simp only [wordsL, List.getElem?_cons_zero, List.getElem?_cons_succ, Option.some.injEq] at h; subst h; exact fun _ => by kernel_rfl
  | 10, _ => simp only [wordsL, List.getElem?_cons_zero, List.getElem?_cons_succ, Option.some.injEq] at h; subst h; exact fun _ => by kernel_rfl
  | 11, _ => simp only [wordsL, List.getElem?_cons_zero, List.getElem?_cons_succ, Option.some.injEq] at h; subst h; exact fun _ => by kernel_rfl
  | 12, _ => simp only [wordsL, List.getElem?_cons_zero, List.getElem?_cons_succ, Option.some.injEq] at h; subst h; exact fun _ => by kernel_rfl
  | 13, _ => simp only [wordsL, List.getElem?_cons_zero, List.getElem?_cons_succ, Option.some.injEq] at h; subst h; exact fun _ => by kernel_rfl
  | 14, _ => simp only [wordsL, List.getElem?_cons_zero, List.getElem?_cons_succ, Option.some.injEq] at h; subst h; exact fun _ => by kernel_rfl
  | 15, _ => simp only [wordsL, List.getElem?_cons_zero, List.getElem?_cons_succ, Option.some.injEq] at h; subst h; exact fun _ => by kernel_rfl
  | 16, _ => simp only [wordsL, List.getElem?_cons_zero, List.getElem?_cons_succ, Option.some.injEq] at h; subst h; exact fun _ => by kernel_rfl
  | 17, _ => simp only [wordsL, List.getElem?_cons_zero, List.getElem?_cons_succ, Option.some.injEq] at h; subst h; exact fun _ => by kernel_rfl
  | 18, _ => simp only [wordsL, List.getElem?_cons_zero, List.getElem?_cons_succ, Option.some.injEq] at h; subst h; exact fun _ => by kernel_rfl
  | 19, _ => simp only [wordsL, List.getElem?_cons_zero, List.getElem?_cons_succ, Option.some.injEq] at h; subst h; exact fun _ => by kernel_rfl
  | 20, _ => simp only [wordsL, List.getElem?_cons_zero, List.getElem?_cons_succ, Option.some.injEq] at h; subst h; exact fun _ => by kernel_rfl
  | 21, _ => simp only [wordsL, List.getElem?_cons_zero, List.getElem?_cons_succ, Option.some.injEq] at h; subst h; exact fun _ => by kernel_rfl

set_option maxRecDepth 100000 in
theorem signs_idx : ArrIs 120 (.agg signsV.toArray) signsL := by
  intro j x h
  have hj : j < 24 := (List.getElem?_eq_some_iff.1 h).1
  match j, hj with
  | 0, _ => simp only [signsL, List.getElem?_cons_zero, Option.some.injEq] at h; subst h; exact fun _ => by kernel_rfl
  | 1, _ => simp only [signsL, List.getElem?_cons_zero, List.getElem?_cons_succ, Option.some.injEq] at h; subst h; exact fun _ => by kernel_rfl
  | 2, _ => simp only [signsL, List.getElem?_cons_zero, List.getElem?_cons_succ, Option.some.injEq] at h; subst h; exact fun _ => by kernel_rfl
  | 3, _ => simp only [signsL, List.getElem?_cons_zero, List.getElem?_cons_succ, Option.some.injEq] at h; subst h; exact fun _ => by kernel_rfl
  | 4, _ => simp only [signsL, List.getElem?_cons_zero, List.getElem?_cons_succ, Option.some.injEq] at h; subst h; exact fun _ => by kernel_rfl
  | 5, _ => simp only [signsL, List.getElem?_cons_zero, List.getElem?_cons_succ, Option.some.injEq] at h; subst h; exact fun _ => by kernel_rfl
  | 6, _ => simp only [signsL, List.getElem?_cons_zero, List.getElem?_cons_succ, Option.some.injEq] at h; subst h; exact fun _ => by kernel_rfl
  | 7, _ => simp only [signsL, List.getElem?_cons_zero, List.getElem?_cons_succ, Option.some.injEq] at h; subst h; exact fun _ => by kernel_rfl
  | 8, _ => simp only [signsL, List.getElem?_cons_zero, List.getElem?_cons_succ, Option.some.injEq] at h; subst h; exact fun _ => by kernel_rfl
  | 9, _ => simp only [signsL, List.getElem?_cons_zero, List.getElem?_cons_succ, Option.some.injEq] at h; subst h; exact fun _ => by kernel_rfl
  | 10, _ => simp only [signsL, List.getElem?_cons_zero, List.getElem?_cons_succ, Option.some.injEq] at h; subst h; exact fun _ => by kernel_rfl
  | 11, _ => simp only [signsL, List.getElem?_cons_zero, List.getElem?_cons_succ, Option.some.injEq] at h; subst h; exact fun _ => by kernel_rfl
  | 12, _ => simp only [signsL, List.getElem?_cons_zero, List.getElem?_cons_succ, Option.some.injEq] at h; subst h; exact fun _ => by kernel_rfl
  | 13, _ => simp only [signsL, List.getElem?_cons_zero, List.getElem?_cons_succ, Option.some.injEq] at h; subst h; exact fun _ => by kernel_rfl
  | 14, _ => simp only [signsL, List.getElem?_cons_zero, List.getElem?_cons_succ, Option.some.injEq] at h; subst h; exact fun _ => by kernel_rfl
  | 15, _ => simp only [signsL, List.getElem?_cons_zero, List.getElem?_cons_succ, Option.some.injEq] at h; subst h; exact fun _ => by kernel_rfl
  | 16, _ => simp only [signsL, List.getElem?_cons_zero, List.getElem?_cons_succ, Option.some.injEq] at h; subst h; exact fun _ => by kernel_rfl
  | 17, _ => simp only [signsL, List.getElem?_cons_zero, List.getElem?_cons_succ, Option.some.injEq] at h; subst h; exact fun _ => by kernel_rfl
  | 18, _ => simp only [signsL, List.getElem?_cons_zero, List.getElem?_cons_succ, Option.some.injEq] at h; subst h; exact fun _ => by kernel_rfl
  | 19, _ => simp only [signsL, List.getElem?_cons_zero, List.getElem?_cons_succ, Option.some.injEq] at h; subst h; exact fun _ => by kernel_rfl
  | 20, _ => simp only [signsL, List.getElem?_cons_zero, List.getElem?_cons_succ, Option.some.injEq] at h; subst h; exact fun _ => by kernel_rfl
  | 21, _ => simp only [signsL, List.getElem?_cons_zero, List.getElem?_cons_succ, Option.some.injEq] at h; subst h; exact fun _ => by kernel_rfl
  | 22, _ => simp only [signsL, List.getElem?_cons_zero, List.getElem?_cons_succ, Option.some.injEq] at h; subst h; exact fun _ => by kernel_rfl
  | 23, _ => simp only [signsL, List.getElem?_cons_zero, List.getElem?_cons_succ, Option.some.injEq] at h; subst h; exact fun _ => by kernel_rfl

theorem eqL (a b : List UInt8) : ((bs a).toList == (bs b).toList) = (a == b) := by rw [bs_list, bs_list]

set_option maxHeartbeats 4000000 in
theorem isWord_any {w : World} (h : Laid w) (l : List UInt8) : Calls Tryz.prog 92 #[.string (bs l)] w fun e w' => e = .returned (.bool (isWord l)) ∧ w = w' := by
  have L := Lib.hid h
  have R := Lib.hid h.words
  have I := Lib.hid words_idx
  clear h
  generalize hV : wordsV = V at R I
  have hV2 : (Tryz.prog.info? 127).map (·.size) = some V.length := by rw [← hV]; kernel_rfl
  clear hV
  have HV := Lib.hid hV2
  clear hV2
  go_enter Tryz.func92, Tryz.ntmps92
  go_wp2_with (refine wpList_load_mid rfl 127 _ rfl 1 0 rfl V _ R.out Tryz.underlying127 rfl HV.out ?_)
  generalize Value.agg V.toArray = A0 at I ⊢
  go_loopw [6] (fun i wr => ∃ k : Nat, k ≤ 22 ∧ i = .int .i64 k ∧ Hid (w = wr ∧ ∀ j x, j < k → wordsL[j]? = some x → x ≠ l)) (fun i _ => 22 - (intOf i).toNat)
  case atStart => exact ⟨0, by decide, rfl, Lib.hid ⟨rfl, fun _ _ h => absurd h (Nat.not_lt_zero _)⟩⟩
  case round =>
    obtain ⟨k, hk, rfl, hm⟩ := hrel
    by_cases hlt : k < 22
    · obtain ⟨x, hx⟩ : ∃ x, wordsL[k]? = some x := ⟨_, List.getElem?_eq_getElem (by show k < 22; omega)⟩
      have ix := I.out k x hx
      have Hx := Lib.hid hx
      clear hx
      by_cases hxl : l = x
      · have e1 : ((bs l).toList == (bs x).toList) = true := by rw [eqL]; simpa using hxl
        go_wp2_with fail
        go_ret
        refine ⟨?_, hm.out.1⟩
        rw [show isWord l = true from by rw [isWord, List.contains_iff_mem, hxl]; exact List.mem_of_getElem? Hx.out]
        rfl
      · have e1 : ((bs l).toList == (bs x).toList) = false := by rw [eqL]; simpa using hxl
        go_wp2_with fail
        go_roundw
        case rel => exact ⟨k + 1, by omega, by go_num, Lib.hid ⟨hm.out.1, fun j y hj hy => by
          by_cases hjk : j = k
          · subst hjk; rw [Hx.out] at hy; cases hy; exact fun e => hxl e.symm
          · exact hm.out.2 j y (by omega) hy⟩⟩
        case measure => simp [intOf]; omega
    · have hk2 : k = 22 := by omega
      subst hk2
      go_wp2_with fail
      go_ret
      refine ⟨?_, hm.out.1⟩
      rw [show isWord l = false from by
        rw [isWord, Bool.eq_false_iff, Ne, List.contains_iff_mem]
        intro hmem
        obtain ⟨j, hj⟩ := List.mem_iff_getElem?.1 hmem
        exact hm.out.2 j l (by have := (List.getElem?_eq_some_iff.1 hj).1; exact this) hj rfl]
      rfl

theorem get_bs {l : List UInt8} {k : Nat} {c : UInt8} (h : k < (bs l).size) (e : l[k]? = some c) : (bs l)[k] = c := by
  rw [bs_get l k h]
  exact (List.getElem?_eq_some_iff.1 e).2

theorem takeWhile_len {p : UInt8 → Bool} : ∀ {l : List UInt8} {k : Nat}, (∀ j c, j < k → l[j]? = some c → p c = true) → k ≤ l.length → (∀ c, l[k]? = some c → p c = false) → (l.takeWhile p).length = k
  | [], k, _, hk, _ => by simp at hk ⊢; omega
  | b :: l, 0, _, _, hs => by simp [hs b rfl]
  | b :: l, k + 1, h, hk, hs => by
    rw [List.takeWhile_cons, if_pos (h 0 b (Nat.succ_pos _) rfl), List.length_cons, takeWhile_len (l := l) (k := k) (fun j c hj hc => h (j + 1) c (by omega) hc) (by simp at hk; omega) (fun c hc => hs c hc)]

set_option maxHeartbeats 4000000 in
theorem nameLen_any {w : World} (l : List UInt8) (hl : l.length ≤ 9223372036854775807) : Calls Tryz.prog 91 #[.string (bs l)] w fun e w' => e = .returned (.int .i64 (nameLen l)) ∧ w = w' := by
  cases l with
  | nil =>
    have e1 : (bs []).toList.isEmpty = true := by rw [bs_list]; rfl
    go_enter Tryz.func91, Tryz.ntmps91
    go_wp2
    go_ret
    exact ⟨rfl, rfl⟩
  | cons b r =>
    have e1 : (bs (b :: r)).toList.isEmpty = false := by rw [bs_list]; rfl
    have ix : ∀ (k : Nat) (c : UInt8) (h : k < (bs (b :: r)).size), (b :: r)[k]? = some c → (bs (b :: r))[k] = c := fun k c h e => get_bs h e
    have hsz := bs_size (b :: r)
    have I := Lib.hid ix
    clear ix
    generalize hs : bs (b :: r) = s at *
    have h0 : 0 < s.size := by rw [hsz]; simp
    have ix0 := I.out 0 b h0 rfl
    clear hs
    have hlen : (b :: r).length ≤ 9223372036854775807 := hl
    obtain ⟨n, hn⟩ : ∃ n, n = (b :: r).length := ⟨_, rfl⟩
    rw [← hn] at hsz hlen
    have Hn := Lib.hid hn
    clear hn hl
    cases hd : digit b.toNat
    · have E : nameLen (b :: r) = ((b :: r).takeWhile inName).length := by simp [nameLen, hd]
      rw [E]
      generalize hll : (b :: r) = l at Hn I
      go_enter Tryz.func91, Tryz.ntmps91
      go_wp2_with fail
      refine (isDigit_any b.toNat (UInt8.toNat_lt b)).mono ?_
      rintro e w' ⟨rfl, rfl⟩
      rw [hd]
      clear hll E
      go_wp2_with fail
      go_loopw [3] (fun i wr => ∃ k : Nat, k ≤ n ∧ i = .int .i64 k ∧ Hid (w = wr ∧ ∀ j c, j < k → l[j]? = some c → inName c = true)) (fun i _ => n - (intOf i).toNat)
      case atStart => exact ⟨0, by omega, rfl, Lib.hid ⟨rfl, fun _ _ h => absurd h (Nat.not_lt_zero _)⟩⟩
      case round =>
        obtain ⟨k, hk, rfl, hm⟩ := hrel
        by_cases hlt : k < n
        · obtain ⟨c, hc⟩ : ∃ c, l[k]? = some c := ⟨_, List.getElem?_eq_getElem (by rw [← Hn.out]; exact hlt)⟩
          have hks : k < s.size := by rw [hsz]; exact hlt
          have gk := I.out k c hks hc
          have C := Lib.hid hc
          clear hc
          cases hL : letter c.toNat
          · cases hD : digit c.toNat
            · go_wp2_with fail
              refine (isLetter_any c.toNat (UInt8.toNat_lt c)).mono ?_
              rintro e w' ⟨rfl, rfl⟩
              rw [hL]
              go_wp2_with fail
              refine (isDigit_any c.toNat (UInt8.toNat_lt c)).mono ?_
              rintro e w' ⟨rfl, rfl⟩
              rw [hD]
              go_wp2_with fail
              go_ret
              refine ⟨?_, hm.out.1⟩
              rw [takeWhile_len hm.out.2 (by rw [← Hn.out]; exact hk) (fun c' hc' => by rw [C.out] at hc'; cases hc'; simp [inName, hL, hD])]
              rfl
            · go_wp2_with fail
              refine (isLetter_any c.toNat (UInt8.toNat_lt c)).mono ?_
              rintro e w' ⟨rfl, rfl⟩
              rw [hL]
              go_wp2_with fail
              refine (isDigit_any c.toNat (UInt8.toNat_lt c)).mono ?_
              rintro e w' ⟨rfl, rfl⟩
              rw [hD]
              go_wp2_with fail
              go_roundw
              case rel => exact ⟨k + 1, by omega, by go_num, Lib.hid ⟨hm.out.1, fun j y hj hy => by
                by_cases hjk : j = k
                · subst hjk; rw [C.out] at hy; cases hy; simp [inName, hD]
                · exact hm.out.2 j y (by omega) hy⟩⟩
              case measure => simp [intOf]; omega
          · go_wp2_with fail
            refine (isLetter_any c.toNat (UInt8.toNat_lt c)).mono ?_
            rintro e w' ⟨rfl, rfl⟩
            rw [hL]
            go_wp2_with fail
            go_roundw
            case rel => exact ⟨k + 1, by omega, by go_num, Lib.hid ⟨hm.out.1, fun j y hj hy => by
              by_cases hjk : j = k
              · subst hjk; rw [C.out] at hy; cases hy; simp [inName, hL]
              · exact hm.out.2 j y (by omega) hy⟩⟩
            case measure => simp [intOf]; omega
        · have hkn : k = n := by omega
          go_wp2_with fail
          go_ret
          refine ⟨?_, hm.out.1⟩
          rw [takeWhile_len hm.out.2 (by rw [← Hn.out]; exact hk) (fun c' hc' => by
            have := (List.getElem?_eq_some_iff.1 hc').1
            rw [← Hn.out] at this
            omega)]
          rfl
    · have E : nameLen (b :: r) = 0 := by simp [nameLen, hd]
      rw [E]
      go_enter Tryz.func91, Tryz.ntmps91
      go_wp2_with fail
      refine (isDigit_any b.toNat (UInt8.toNat_lt b)).mono ?_
      rintro e w' ⟨rfl, rfl⟩
      rw [hd]
      go_wp2_with fail
      go_ret
      exact ⟨rfl, rfl⟩

theorem eE (l : List UInt8) : (bs l).toList.isEmpty = l.isEmpty := by rw [bs_list]
end Go.Proofs.YtmphiefdoaihhaaGreatDoor.Tk

/-
  Package token: the scanner as it lies in memory; pass, skipComment, HasPrefix, lacksSemi.
-/
namespace Go.Proofs.YtmphiefdoaihhaaGreatDoor.Tk
open Go.RowKit
set_option maxRecDepth 100000

theorem _root_.Go.Proofs.YtmphiefdoaihhaaGreatDoor.Fr.drewN {S : Nat → Prop} {a b : World} (h : Fr S a b) (n : Nat) : Fr S a (b.drewN n) := ⟨h.os, h.tape, h.output, h.size, h.block⟩
theorem blk_set {w : World} {g : Nat} {t : TypeId} {cs : Array Value} (h : w.heap[g]? = some (.cells cs t (0, 0))) (i : Nat) (u : Value) : (w.setCell ⟨g, i, none⟩ u).heap[g]? = some (.cells (cs.setIfInBounds i u) t (0, 0)) := by
  simp [World.setCell, Array.getElem?_modify, h]

def TokC (t : Tok) (cs : List Value) : Prop := cs = [.int .i64 t.kind, .string (bs t.text), .int .i64 t.n, .int .i64 t.line, .int .i64 t.col]

/-- A scanner at block p: at byte k of T, in a line that begins at 'first'; it has found 'out'. -/
structure Sc (w : World) (B p : Nat) (T : List UInt8) (k line first : Nat) (v : Value) (out : List Tok) : Prop where
  obj : w.heap[p]? = some (.cells #[.string (bs T), .int .i64 k, .int .i64 line, .int .i64 first, v] 67 (0, 0))
  own : OwnSl w B 45 5 TokC v out
  ne : v.ownBlock ≠ some p
  kT : k ≤ T.length
  fk : first ≤ k
  ln : line ≤ k + 1
  big : T.length ≤ 16384
  few : out.length ≤ 4000
  lo : B ≤ p

section
variable {w w' : World} {B p : Nat} {T : List UInt8} {k line first : Nat} {v : Value} {out : List Tok}

theorem Sc.c0 (h : Sc w B p T k line first v out) : w.cell? ⟨p, 0, none⟩ = some (.string (bs T)) := by rw [cell_of_row w p 0 _ _ _ h.obj]; rfl
theorem Sc.c1 (h : Sc w B p T k line first v out) : w.cell? ⟨p, 1, none⟩ = some (.int .i64 k) := by rw [cell_of_row w p 1 _ _ _ h.obj]; rfl
theorem Sc.c2 (h : Sc w B p T k line first v out) : w.cell? ⟨p, 2, none⟩ = some (.int .i64 line) := by rw [cell_of_row w p 2 _ _ _ h.obj]; rfl
theorem Sc.c3 (h : Sc w B p T k line first v out) : w.cell? ⟨p, 3, none⟩ = some (.int .i64 first) := by rw [cell_of_row w p 3 _ _ _ h.obj]; rfl
theorem Sc.c4 (h : Sc w B p T k line first v out) : w.cell? ⟨p, 4, none⟩ = some v := by rw [cell_of_row w p 4 _ _ _ h.obj]; rfl
theorem Sc.fr (h : Sc w B p T k line first v out) (j : Nat) : w.frozen? ⟨p, j, none⟩ = false := frozen_of_row w p j _ _ h.obj
theorem Sc.lt (h : Sc w B p T k line first v out) : p < w.heap.size := heap_lt h.obj

theorem Sc.kept {S : Nat → Prop} (h : Sc w B p T k line first v out) (hf : Fr S w w') (hp : ¬ S p) (hv : ∀ b, v.ownBlock = some b → ¬ S b) : Sc w' B p T k line first v out :=
  ⟨(hf.block p h.lt hp).trans h.obj, h.own.kept hf hv (fun _ _ _ h => h), h.ne, h.kT, h.fk, h.ln, h.big, h.few, h.lo⟩
theorem Sc.up (h : Sc w B p T k line first v out) (hf : Up w w') : Sc w' B p T k line first v out := h.kept hf (fun h => h) (fun _ _ h => h)
theorem Sc.drewN (h : Sc w B p T k line first v out) (n : Nat) : Sc (w.drewN n) B p T k line first v out := h.up (Fr.drewN (Fr.refl _ _) n)

abbrev FrP (p : Nat) : World → World → Prop := Fr (fun b => b = p)
theorem fr_set (i : Nat) (u : Value) : FrP p w (w.setCell ⟨p, i, none⟩ u) := (Fr.refl (fun b => b = p) w).setCell (p := ⟨p, i, none⟩) (fun _ => rfl) u

/-- The three numbers, set anew. -/
theorem Sc.put (h : Sc w B p T k line first v out) (k' line' first' : Nat) (hf : FrP p w w') (ho : w'.heap[p]? = some (.cells #[.string (bs T), .int .i64 k', .int .i64 line', .int .i64 first', v] 67 (0, 0)))
    (h1 : k' ≤ T.length) (h2 : first' ≤ k') (h3 : line' ≤ k' + 1) : Sc w' B p T k' line' first' v out :=
  ⟨ho, h.own.kept hf (fun b hb e => h.ne (by subst e; exact hb)) (fun _ _ _ h => h), h.ne, h1, h2, h3, h.big, h.few, h.lo⟩

theorem Sc.setAt (h : Sc w B p T k line first v out) (k' : Nat) (h0 : k ≤ k') (h1 : k' ≤ T.length) : Sc (w.setCell ⟨p, 1, none⟩ (.int .i64 k')) B p T k' line first v out :=
  h.put k' line first (fr_set _ _) (by rw [blk_set h.obj]; rfl) h1 (by have := h.fk; omega) (by have := h.ln; omega)

/-- The line's end is passed. -/
theorem Sc.setLine (h : Sc w B p T k line first v out) (h1 : k < T.length) :
    Sc (((w.setCell ⟨p, 1, none⟩ (.int .i64 ((k + 1 : Nat)))).setCell ⟨p, 2, none⟩ (.int .i64 ((line + 1 : Nat)))).setCell ⟨p, 3, none⟩ (.int .i64 ((k + 1 : Nat)))) B p T (k + 1) (line + 1) (k + 1) v out :=
  h.put (k + 1) (line + 1) (k + 1) (((fr_set _ _).setCell (p := ⟨p, 2, none⟩) (fun _ => rfl) _).setCell (p := ⟨p, 3, none⟩) (fun _ => rfl) _)
    (by rw [blk_set (blk_set (blk_set h.obj 1 _) 2 _) 3 _]; rfl) h1 (Nat.le_refl _) (by have := h.ln; omega)
end

theorem bs_extract (l : List UInt8) (a b : Nat) : (bs l).extract a b = bs ((l.drop a).take (b - a)) := ByteArray.extract_mk l a b
theorem bs_from (l : List UInt8) (a : Nat) : (bs l).extract a (bs l).size = bs (l.drop a) := by
  rw [bs_extract, bs_size, List.take_of_length_le (by simp)]

theorem _root_.Go.Proofs.YtmphiefdoaihhaaGreatDoor.Hid.mk_ {p : Prop} (h : p) : Hid p := Lib.hid h

set_option maxHeartbeats 400000 in
theorem pass_any {w : World} {B p : Nat} {T : List UInt8} {k line first : Nat} {v : Value} {out : List Tok} (h : Sc w B p T k line first v out) (n : Nat) (hn : k + n ≤ T.length) :
    Calls Tryz.prog 90 #[.pointer (some ⟨p, 0, none⟩), .int .i64 n] w fun e w' => e = .returned (.string (bs ((T.drop k).take n))) ∧ Sc w' B p T (k + n) line first v out ∧ FrP p w w' := by
  have c0 := h.c0
  have c1 := h.c1
  have f1 := h.fr 1
  have hT := h.big
  obtain ⟨m, hm⟩ : ∃ m, m = k + n := ⟨_, rfl⟩
  rw [← hm] at hn ⊢
  have hw : (k : Int) + (n : Int) = (m : Int) := by omega
  have H := Lib.hid (show Sc (w.setCell ⟨p, 1, none⟩ (.int .i64 m)) B p T m line first v out from h.setAt m (by omega) hn)
  have E := Lib.hid (show (bs T).extract k m = bs ((T.drop k).take n) by rw [bs_extract, hm, Nat.add_sub_cancel_left])
  have hsz := bs_size T
  have Hm := Lib.hid hm
  clear h hm
  go_enter Tryz.func90, Tryz.ntmps90
  go_wp2_with fail
  have f := fr_set (w := w) (p := p) 1 (.int .i64 m)
  generalize w.setCell ⟨p, 1, none⟩ (.int .i64 m) = w1 at H f ⊢
  clear c0 c1 f1 hw
  have c0 := H.out.c0
  have c1 := H.out.c1
  have F := Lib.hid f
  have a1 : (k : Int) ≤ (m : Int) := by have := Hm.out; omega
  have a2 : (m : Int) ≤ (bs T).size := by omega
  clear f
  go_quiet (fail)
  go_wp2_with fail
  go_ret
  refine ⟨?_, H.out.drewN _, F.out.drewN _⟩
  rw [← E.out]; rfl

set_option maxHeartbeats 400000 in
theorem hasPrefix_any {w : World} (a b : List UInt8) :
    Calls Tryz.prog 56 #[.string (bs a), .string (bs b)] w fun e w' => e = .returned (.bool (b.isPrefixOf a)) ∧ w = w' := by
  have sa := bs_size a
  have sb := bs_size b
  have inner : Calls Tryz.prog 88 #[.string (bs a), .string (bs b)] w fun e w' => e = .returned (.bool (b.isPrefixOf a)) ∧ w = w' := by
    by_cases hl : b.length ≤ a.length
    · have h1 : ((a.length : Int) ≥ (b.length : Int)) := by omega
      have h2 : ((b.length : Int) ≤ (bs a).size) := by omega
      have E : (bs a).extract 0 b.length = bs (a.take b.length) := by rw [bs_extract]; simp
      cases hp : b.isPrefixOf a
      · have e1 : ((bs (a.take b.length)).toList == (bs b).toList) = false := by
          rw [eqL, beq_eq_false_iff_ne]
          intro he
          rw [Bool.eq_false_iff, Ne, List.isPrefixOf_iff_prefix] at hp
          exact hp ⟨a.drop b.length, by conv => lhs; lhs; rw [← he]
                                        exact List.take_append_drop _ _⟩
        go_enter Tryz.func88, Tryz.ntmps88
        go_wp2
        go_ret
        exact ⟨rfl, rfl⟩
      · have e1 : ((bs (a.take b.length)).toList == (bs b).toList) = true := by
          rw [eqL, beq_iff_eq]
          rw [List.isPrefixOf_iff_prefix] at hp
          exact (List.prefix_iff_eq_take.1 hp).symm
        go_enter Tryz.func88, Tryz.ntmps88
        go_wp2
        go_ret
        exact ⟨rfl, rfl⟩
    · have h1 : ¬ ((a.length : Int) ≥ (b.length : Int)) := by omega
      have hp : b.isPrefixOf a = false := by
        rw [Bool.eq_false_iff, Ne, List.isPrefixOf_iff_prefix]
        exact fun h => hl h.length_le
      rw [hp]
      go_enter Tryz.func88, Tryz.ntmps88
      go_wp2
      go_ret
      exact ⟨rfl, rfl⟩
  go_enter Tryz.func56, Tryz.ntmps56
  go_wp2_with fail
  refine inner.mono ?_
  rintro e w' ⟨rfl, rfl⟩
  go_wp2_with fail
  go_ret
  exact ⟨rfl, rfl⟩

def posOf (w : World) (p : Nat) : Nat := match w.cell? ⟨p, 1, none⟩ with
  | some (.int _ n) => n.toNat
  | _ => 0
theorem Sc.pos {w : World} {B p : Nat} {T : List UInt8} {k line first : Nat} {v : Value} {out : List Tok} (h : Sc w B p T k line first v out) : posOf w p = k := by
  unfold posOf; rw [h.c1]; simp

theorem takeWhile_at {q : UInt8 → Bool} {T : List UInt8} {k j : Nat} (hkj : k ≤ j) (hj : j ≤ T.length) (h : ∀ i c, k ≤ i → i < j → T[i]? = some c → q c = true) (hs : ∀ c, T[j]? = some c → q c = false) :
    ((T.drop k).takeWhile q).length = j - k :=
  takeWhile_len (fun i c hi hc => by rw [List.getElem?_drop] at hc; exact h (k + i) c (by omega) (by omega) hc) (by rw [List.length_drop]; omega)
    (fun c hc => by rw [List.getElem?_drop, Nat.add_sub_cancel' hkj] at hc; exact hs c hc)

set_option maxHeartbeats 1000000 in
theorem skipComment_any {w : World} {B p : Nat} {T : List UInt8} {k line first : Nat} {v : Value} {out : List Tok} (h : Sc w B p T k line first v out) :
    Calls Tryz.prog 57 #[.pointer (some ⟨p, 0, none⟩)] w fun e w' => e = .returned (.tuple #[]) ∧ Sc w' B p T (k + ((T.drop k).takeWhile (fun c => c ≠ 10)).length) line first v out ∧ FrP p w w' := by
  have hk := h.kT
  have hT := h.big
  have H := Lib.hid h
  have hsz := bs_size T
  have Sz := Lib.hid hsz
  clear h
  go_enter Tryz.func57, Tryz.ntmps57
  go_wp2_with fail
  go_loopw [] (fun wr => ∃ j : Nat, k ≤ j ∧ j ≤ T.length ∧ Hid (Sc wr B p T j line first v out ∧ FrP p w wr ∧ ∀ i c, k ≤ i → i < j → T[i]? = some c → decide (c ≠ 10) = true)) (fun wr => T.length - posOf wr p)
  case atStart => exact ⟨k, Nat.le_refl _, hk, Lib.hid ⟨H.out, Fr.refl _ _, fun _ _ h1 h2 => by omega⟩⟩
  case round =>
    obtain ⟨j, hkj, hjT, hm⟩ := hrel
    have c0 := hm.out.1.c0
    have c1 := hm.out.1.c1
    have f1 := hm.out.1.fr 1
    have Ps := Lib.hid hm.out.1.pos
    by_cases hlt : j < T.length
    · obtain ⟨c, hc⟩ : ∃ c, T[j]? = some c := ⟨_, List.getElem?_eq_getElem hlt⟩
      have hjs : j < (bs T).size := by rw [hsz]; exact hlt
      have gj := get_bs hjs hc
      have C := Lib.hid hc
      clear hc
      have d1 : decide ((j : Int) < (T.length : Int)) = true := dec_of (by omega)
      have d0 : ((j : Int) < ((bs T).size : Int)) := by omega
      by_cases h10 : c = 10
      · have q1 : ((c.toNat : Int) == 10) = true := by subst h10; rfl
        have q2 : ((c.toNat : Int) != 10) = false := by subst h10; rfl
        go_wp2_with fail
        go_quiet (fail)
        go_wp2_with fail
        refine bodyPost_end (v := .tuple #[]) (by kernel_rfl) rfl ?_
        refine ⟨rfl, ?_, hm.out.2.1.drewN _⟩
        rw [takeWhile_at hkj hjT hm.out.2.2 (fun c' hc' => by rw [C.out] at hc'; cases hc'; simp [h10]), Nat.add_sub_cancel' hkj]
        exact hm.out.1.drewN _
      · have hn10 : c.toNat ≠ 10 := fun e => h10 (UInt8.toNat_inj.1 (by rw [e]; rfl))
        have q1 : ((c.toNat : Int) == 10) = false := beqF hn10
        have q2 : ((c.toNat : Int) != 10) = true := by rw [bne, q1]; rfl
        obtain ⟨m, hm'⟩ : ∃ m, m = j + 1 := ⟨_, rfl⟩
        have hw : (j : Int) + 1 = (m : Int) := by omega
        have Hm := Lib.hid hm'
        clear hm' hn10
        go_wp2_with fail
        go_quiet (fail)
        have hx := hm.out.1.drewN nq
        have c0 := hx.c0
        have c1 := hx.c1
        have f1 := hx.fr 1
        have N := Lib.hid (show Sc ((wr.drewN nq).setCell ⟨p, 1, none⟩ (.int .i64 m)) B p T m line first v out ∧ FrP p w ((wr.drewN nq).setCell ⟨p, 1, none⟩ (.int .i64 m)) from
          ⟨hx.setAt m (by have := Hm.out; omega) (by have := Hm.out; omega), (hm.out.2.1.drewN nq).setCell (p := ⟨p, 1, none⟩) (fun _ => rfl) _⟩)
        clear hx
        go_wp2_with fail
        generalize (wr.drewN nq).setCell ⟨p, 1, none⟩ (.int .i64 m) = w1 at N ⊢
        go_roundw
        case rel => exact ⟨m, by have := Hm.out; omega, by have := Hm.out; omega, Lib.hid ⟨N.out.1, N.out.2, fun i y h1 h2 hy => by
          have := Hm.out
          by_cases hij : i = j
          · subst hij; rw [C.out] at hy; cases hy; exact dec_of h10
          · exact hm.out.2.2 i y h1 (by omega) hy⟩⟩
        case measure => rw [N.out.1.pos, Ps.out]; have := Hm.out; omega
    · have d1 : decide ((j : Int) < (T.length : Int)) = false := dec_not (by omega)
      have d0 : ¬ ((j : Int) < ((bs T).size : Int)) := by omega
      go_wp2_with fail
      go_quiet (fail)
      go_wp2_with fail
      refine bodyPost_end (v := .tuple #[]) (by kernel_rfl) rfl ?_
      refine ⟨rfl, ?_, hm.out.2.1.drewN _⟩
      rw [takeWhile_at hkj hjT hm.out.2.2 (fun c' hc' => by have := (List.getElem?_eq_some_iff.1 hc').1; omega), Nat.add_sub_cancel' hkj]
      exact hm.out.1.drewN _

set_option maxHeartbeats 1000000 in
theorem wordMayEnd_any {w : World} (l : List UInt8) : Calls Tryz.prog 87 #[.string (bs l)] w fun e w' => e = .returned (.bool (endWords.contains l)) ∧ w = w' := by
  by_cases h : endWords.contains l = true
  · rw [h]
    have hm : l ∈ endWords := by simpa using h
    clear h
    simp only [endWords, List.mem_cons, List.not_mem_nil, or_false] at hm
    rcases hm with rfl | rfl | rfl | rfl | rfl | rfl | rfl | rfl | rfl
    · have e0 : ((bs [116, 114, 117, 101]).toList == [116, 114, 117, 101]) = true := by rw [bs_list]; decide
      have e1 : ((bs [116, 114, 117, 101]).toList == [102, 97, 108, 115, 101]) = false := by rw [bs_list]; decide
      have e2 : ((bs [116, 114, 117, 101]).toList == [110, 105, 108]) = false := by rw [bs_list]; decide
      have e3 : ((bs [116, 114, 117, 101]).toList == [98, 114, 101, 97, 107]) = false := by rw [bs_list]; decide
      have e4 : ((bs [116, 114, 117, 101]).toList == [99, 111, 110, 116, 105, 110, 117, 101]) = false := by rw [bs_list]; decide
      have e5 : ((bs [116, 114, 117, 101]).toList == [114, 101, 116, 117, 114, 110]) = false := by rw [bs_list]; decide
      have e6 : ((bs [116, 114, 117, 101]).toList == [105, 110, 116]) = false := by rw [bs_list]; decide
      have e7 : ((bs [116, 114, 117, 101]).toList == [98, 111, 111, 108]) = false := by rw [bs_list]; decide
      have e8 : ((bs [116, 114, 117, 101]).toList == [115, 116, 114, 105, 110, 103]) = false := by rw [bs_list]; decide
      go_enter Tryz.func87, Tryz.ntmps87
      go_wp2
      go_ret
      exact ⟨rfl, rfl⟩
    · have e0 : ((bs [102, 97, 108, 115, 101]).toList == [116, 114, 117, 101]) = false := by rw [bs_list]; decide
      have e1 : ((bs [102, 97, 108, 115, 101]).toList == [102, 97, 108, 115, 101]) = true := by rw [bs_list]; decide
      have e2 : ((bs [102, 97, 108, 115, 101]).toList == [110, 105, 108]) = false := by rw [bs_list]; decide
      have e3 : ((bs [102, 97, 108, 115, 101]).toList == [98, 114, 101, 97, 107]) = false := by rw [bs_list]; decide
      have e4 : ((bs [102, 97, 108, 115, 101]).toList == [99, 111, 110, 116, 105, 110, 117, 101]) = false := by rw [bs_list]; decide
      have e5 : ((bs [102, 97, 108, 115, 101]).toList == [114, 101, 116, 117, 114, 110]) = false := by rw [bs_list]; decide
      have e6 : ((bs [102, 97, 108, 115, 101]).toList == [105, 110, 116]) = false := by rw [bs_list]; decide
      have e7 : ((bs [102, 97, 108, 115, 101]).toList == [98, 111, 111, 108]) = false := by rw [bs_list]; decide
      have e8 : ((bs [102, 97, 108, 115, 101]).toList == [115, 116, 114, 105, 110, 103]) = false := by rw [bs_list]; decide
      go_enter Tryz.func87, Tryz.ntmps87
      go_wp2
      go_ret
      exact ⟨rfl, rfl⟩
    · have e0 : ((bs [110, 105, 108]).toList == [116, 114, 117, 101]) = false := by rw [bs_list]; decide
      have e1 : ((bs [110, 105, 108]).toList == [102, 97, 108, 115, 101]) = false := by rw [bs_list]; decide
      have e2 : ((bs [110, 105, 108]).toList == [110, 105, 108]) = true := by rw [bs_list]; decide
      have e3 : ((bs [110, 105, 108]).toList == [98, 114, 101, 97, 107]) = false := by rw [bs_list]; decide
      have e4 : ((bs [110, 105, 108]).toList == [99, 111, 110, 116, 105, 110, 117, 101]) = false := by rw [bs_list]; decide
      have e5 : ((bs [110, 105, 108]).toList == [114, 101, 116, 117, 114, 110]) = false := by rw [bs_list]; decide
      have e6 : ((bs [110, 105, 108]).toList == [105, 110, 116]) = false := by rw [bs_list]; decide
      have e7 : ((bs [110, 105, 108]).toList == [98, 111, 111, 108]) = false := by rw [bs_list]; decide
      have e8 : ((bs [110, 105, 108]).toList == [115, 116, 114, 105, 110, 103]) = false := by rw [bs_list]; decide
      go_enter Tryz.func87, Tryz.ntmps87
      go_wp2
      go_ret
      exact ⟨rfl, rfl⟩
    · have e0 : ((bs [98, 114, 101, 97, 107]).toList == [116, 114, 117, 101]) = false := by rw [bs_list]; decide
      have e1 : ((bs [98, 114, 101, 97, 107]).toList == [102, 97, 108, 115, 101]) = false := by rw [bs_list]; decide
      have e2 : ((bs [98, 114, 101, 97, 107]).toList == [110, 105, 108]) = false := by rw [bs_list]; decide
      have e3 : ((bs [98, 114, 101, 97, 107]).toList == [98, 114, 101, 97, 107]) = true := by rw [bs_list]; decide
      have e4 : ((bs [98, 114, 101, 97, 107]).toList == [99, 111, 110, 116, 105, 110, 117, 101]) = false := by rw [bs_list]; decide
      have e5 : ((bs [98, 114, 101, 97, 107]).toList == [114, 101, 116, 117, 114, 110]) = false := by rw [bs_list]; decide
      have e6 : ((bs [98, 114, 101, 97, 107]).toList == [105, 110, 116]) = false := by rw [bs_list]; decide
      have e7 : ((bs [98, 114, 101, 97, 107]).toList == [98, 111, 111, 108]) = false := by rw [bs_list]; decide
      have e8 : ((bs [98, 114, 101, 97, 107]).toList == [115, 116, 114, 105, 110, 103]) = false := by rw [bs_list]; decide
      go_enter Tryz.func87, Tryz.ntmps87
      go_wp2
      go_ret
      exact ⟨rfl, rfl⟩
    · have e0 : ((bs [99, 111, 110, 116, 105, 110, 117, 101]).toList == [116, 114, 117, 101]) = false := by rw [bs_list]; decide
      have e1 : ((bs [99, 111, 110, 116, 105, 110, 117, 101]).toList == [102, 97, 108, 115, 101]) = false := by rw [bs_list]; decide
      have e2 : ((bs [99, 111, 110, 116, 105, 110, 117, 101]).toList == [110, 105, 108]) = false := by rw [bs_list]; decide
      have e3 : ((bs [99, 111, 110, 116, 105, 110, 117, 101]).toList == [98, 114, 101, 97, 107]) = false := by rw [bs_list]; decide
      have e4 : ((bs [99, 111, 110, 116, 105, 110, 117, 101]).toList == [99, 111, 110, 116, 105, 110, 117, 101]) = true := by rw [bs_list]; decide
      have e5 : ((bs [99, 111, 110, 116, 105, 110, 117, 101]).toList == [114, 101, 116, 117, 114, 110]) = false := by rw [bs_list]; decide
      have e6 : ((bs [99, 111, 110, 116, 105, 110, 117, 101]).toList == [105, 110, 116]) = false := by rw [bs_list]; decide
      have e7 : ((bs [99, 111, 110, 116, 105, 110, 117, 101]).toList == [98, 111, 111, 108]) = false := by rw [bs_list]; decide
      have e8 : ((bs [99, 111, 110, 116, 105, 110, 117, 101]).toList == [115, 116, 114, 105, 110, 103]) = false := by rw [bs_list]; decide
      go_enter Tryz.func87, Tryz.ntmps87
      go_wp2
      go_ret
      exact ⟨rfl, rfl⟩
    · have e0 : ((bs [114, 101, 116, 117, 114, 110]).toList == [116, 114, 117, 101]) = false := by rw [bs_list]; decide
      have e1 : ((bs [114, 101, 116, 117, 114, 110]).toList == [102, 97, 108, 115, 101]) = false := by rw [bs_list]; decide
      have e2 : ((bs [114, 101, 116, 117, 114, 110]).toList == [110, 105, 108]) = false := by rw [bs_list]; decide
      have e3 : ((bs [114, 101, 116, 117, 114, 110]).toList == [98, 114, 101, 97, 107]) = false := by rw [bs_list]; decide
      have e4 : ((bs [114, 101, 116, 117, 114, 110]).toList == [99, 111, 110, 116, 105, 110, 117, 101]) = false := by rw [bs_list]; decide
      have e5 : ((bs [114, 101, 116, 117, 114, 110]).toList == [114, 101, 116, 117, 114, 110]) = true := by rw [bs_list]; decide
      have e6 : ((bs [114, 101, 116, 117, 114, 110]).toList == [105, 110, 116]) = false := by rw [bs_list]; decide
      have e7 : ((bs [114, 101, 116, 117, 114, 110]).toList == [98, 111, 111, 108]) = false := by rw [bs_list]; decide
      have e8 : ((bs [114, 101, 116, 117, 114, 110]).toList == [115, 116, 114, 105, 110, 103]) = false := by rw [bs_list]; decide
      go_enter Tryz.func87, Tryz.ntmps87
      go_wp2
      go_ret
      exact ⟨rfl, rfl⟩
    · have e0 : ((bs [105, 110, 116]).toList == [116, 114, 117, 101]) = false := by rw [bs_list]; decide
      have e1 : ((bs [105, 110, 116]).toList == [102, 97, 108, 115, 101]) = false := by rw [bs_list]; decide
      have e2 : ((bs [105, 110, 116]).toList == [110, 105, 108]) = false := by rw [bs_list]; decide
      have e3 : ((bs [105, 110, 116]).toList == [98, 114, 101, 97, 107]) = false := by rw [bs_list]; decide
      have e4 : ((bs [105, 110, 116]).toList == [99, 111, 110, 116, 105, 110, 117, 101]) = false := by rw [bs_list]; decide
      have e5 : ((bs [105, 110, 116]).toList == [114, 101, 116, 117, 114, 110]) = false := by rw [bs_list]; decide
      have e6 : ((bs [105, 110, 116]).toList == [105, 110, 116]) = true := by rw [bs_list]; decide
      have e7 : ((bs [105, 110, 116]).toList == [98, 111, 111, 108]) = false := by rw [bs_list]; decide
      have e8 : ((bs [105, 110, 116]).toList == [115, 116, 114, 105, 110, 103]) = false := by rw [bs_list]; decide
      go_enter Tryz.func87, Tryz.ntmps87
      go_wp2
      go_ret
      exact ⟨rfl, rfl⟩
    · have e0 : ((bs [98, 111, 111, 108]).toList == [116, 114, 117, 101]) = false := by rw [bs_list]; decide
      have e1 : ((bs [98, 111, 111, 108]).toList == [102, 97, 108, 115, 101]) = false := by rw [bs_list]; decide
      have e2 : ((bs [98, 111, 111, 108]).toList == [110, 105, 108]) = false := by rw [bs_list]; decide
      have e3 : ((bs [98, 111, 111, 108]).toList == [98, 114, 101, 97, 107]) = false := by rw [bs_list]; decide
      have e4 : ((bs [98, 111, 111, 108]).toList == [99, 111, 110, 116, 105, 110, 117, 101]) = false := by rw [bs_list]; decide
      have e5 : ((bs [98, 111, 111, 108]).toList == [114, 101, 116, 117, 114, 110]) = false := by rw [bs_list]; decide
      have e6 : ((bs [98, 111, 111, 108]).toList == [105, 110, 116]) = false := by rw [bs_list]; decide
      have e7 : ((bs [98, 111, 111, 108]).toList == [98, 111, 111, 108]) = true := by rw [bs_list]; decide
      have e8 : ((bs [98, 111, 111, 108]).toList == [115, 116, 114, 105, 110, 103]) = false := by rw [bs_list]; decide
      go_enter Tryz.func87, Tryz.ntmps87
      go_wp2
      go_ret
      exact ⟨rfl, rfl⟩
    · have e0 : ((bs [115, 116, 114, 105, 110, 103]).toList == [116, 114, 117, 101]) = false := by rw [bs_list]; decide
      have e1 : ((bs [115, 116, 114, 105, 110, 103]).toList == [102, 97, 108, 115, 101]) = false := by rw [bs_list]; decide
      have e2 : ((bs [115, 116, 114, 105, 110, 103]).toList == [110, 105, 108]) = false := by rw [bs_list]; decide
      have e3 : ((bs [115, 116, 114, 105, 110, 103]).toList == [98, 114, 101, 97, 107]) = false := by rw [bs_list]; decide
      have e4 : ((bs [115, 116, 114, 105, 110, 103]).toList == [99, 111, 110, 116, 105, 110, 117, 101]) = false := by rw [bs_list]; decide
      have e5 : ((bs [115, 116, 114, 105, 110, 103]).toList == [114, 101, 116, 117, 114, 110]) = false := by rw [bs_list]; decide
      have e6 : ((bs [115, 116, 114, 105, 110, 103]).toList == [105, 110, 116]) = false := by rw [bs_list]; decide
      have e7 : ((bs [115, 116, 114, 105, 110, 103]).toList == [98, 111, 111, 108]) = false := by rw [bs_list]; decide
      have e8 : ((bs [115, 116, 114, 105, 110, 103]).toList == [115, 116, 114, 105, 110, 103]) = true := by rw [bs_list]; decide
      go_enter Tryz.func87, Tryz.ntmps87
      go_wp2
      go_ret
      exact ⟨rfl, rfl⟩
  · have hf : endWords.contains l = false := by simpa using h
    rw [hf]
    have hm : l ∉ endWords := by simpa using h
    simp only [endWords, List.mem_cons, List.not_mem_nil, or_false, not_or] at hm
    obtain ⟨n0, n1, n2, n3, n4, n5, n6, n7, n8⟩ := hm
    have e0 : ((bs l).toList == [116, 114, 117, 101]) = false := by rw [bs_list]; exact beq_eq_false_iff_ne.2 n0
    have e1 : ((bs l).toList == [102, 97, 108, 115, 101]) = false := by rw [bs_list]; exact beq_eq_false_iff_ne.2 n1
    have e2 : ((bs l).toList == [110, 105, 108]) = false := by rw [bs_list]; exact beq_eq_false_iff_ne.2 n2
    have e3 : ((bs l).toList == [98, 114, 101, 97, 107]) = false := by rw [bs_list]; exact beq_eq_false_iff_ne.2 n3
    have e4 : ((bs l).toList == [99, 111, 110, 116, 105, 110, 117, 101]) = false := by rw [bs_list]; exact beq_eq_false_iff_ne.2 n4
    have e5 : ((bs l).toList == [114, 101, 116, 117, 114, 110]) = false := by rw [bs_list]; exact beq_eq_false_iff_ne.2 n5
    have e6 : ((bs l).toList == [105, 110, 116]) = false := by rw [bs_list]; exact beq_eq_false_iff_ne.2 n6
    have e7 : ((bs l).toList == [98, 111, 111, 108]) = false := by rw [bs_list]; exact beq_eq_false_iff_ne.2 n7
    have e8 : ((bs l).toList == [115, 116, 114, 105, 110, 103]) = false := by rw [bs_list]; exact beq_eq_false_iff_ne.2 n8
    clear n0 n1 n2 n3 n4 n5 n6 n7 n8 h hf
    go_enter Tryz.func87, Tryz.ntmps87
    go_wp2
    go_ret
    exact ⟨rfl, rfl⟩
end Go.Proofs.YtmphiefdoaihhaaGreatDoor.Tk

/-
  Package token: lacksSemi, skip.
-/
namespace Go.Proofs.YtmphiefdoaihhaaGreatDoor.Tk
open Go.RowKit
set_option maxRecDepth 100000

set_option maxRecDepth 100000 in
set_option maxHeartbeats 2000000 in
theorem lacksSemi_any {w : World} {B p : Nat} {T : List UInt8} {k line first : Nat} {v : Value} {out : List Tok} (h : Sc w B p T k line first v out) :
    Calls Tryz.prog 55 #[.pointer (some ⟨p, 0, none⟩)] w fun e w' => e = .returned (.bool (lastEnds out)) ∧ Up w w' := by
  obtain ⟨A, c, rfl, hp⟩ := h.own.reads.parts
  have c4 := h.c4
  have f4 := h.few
  by_cases h0 : out = []
  · subst h0
    go_enter Tryz.func55, Tryz.ntmps55
    go_wp2
    go_ret
    exact ⟨rfl, Fr.refl _ _⟩
  · obtain ⟨n, hn⟩ : ∃ n, n = out.length := ⟨_, rfl⟩
    have hn0 : 0 < n := by rw [hn]; exact List.length_pos_iff.2 h0
    obtain ⟨m, hm⟩ : ∃ m, n = m + 1 := ⟨n - 1, by omega⟩
    have hmo : m < out.length := by omega
    obtain ⟨b, o, cs, rfl, hG, hb, rfl, hcl, hx⟩ := hp.elem hmo
    clear hG hcl
    have hle : lastEnds out = mayEnd out[m] := by
      unfold lastEnds
      rw [List.getLast?_eq_getElem?, show out.length - 1 = m by omega, List.getElem?_eq_getElem hmo]
    rw [hle]
    obtain ⟨t, ht⟩ : ∃ t, t = out[m] := ⟨_, rfl⟩
    rw [← ht] at hx ⊢
    have x0 := hx 0 _ rfl
    have x1 := hx 1 _ rfl
    have x2 := hx 2 _ rfl
    have x3 := hx 3 _ rfl
    have x4 := hx 4 _ rfl
    rw [Nat.add_zero] at x0
    rw [← hn] at c4 f4
    have z0 : ((n : Int) == 0) = false := by simp; omega
    have hw : (n : Int) - 1 = (m : Int) := by rw [hm]; simp
    have hw2 : IntKind.i64.wrap (m : Int) = (m : Int) := IntWalk.i64_in _ (by omega)
    have hmn : (m : Int) < (n : Int) := Int.ofNat_lt.2 (by rw [hm]; exact Nat.lt_succ_self m)
    have hm0 : (0 : Int) ≤ (m : Int) := Int.natCast_nonneg m
    have hmN : m < n := by rw [hm]; exact Nat.lt_succ_self m
    have hpl := h.lt
    have hia : ∀ w, (Instr.indexAt 43 (.slice (some ⟨b, o, none⟩) n c) (.int .i64 m)).run Tryz.prog w = .ok (.pointer (some ⟨b, o + m * 5, none⟩)) w := by
      intro w
      rw [run_indexAt_slice (h := by kernel_rfl), if_pos ⟨hm0, hmn⟩, show (sizeOf (Tryz.prog.elem 43)).run Tryz.prog w = .ok 5 w from by kernel_rfl]
      simp [Result.andThen, Addr.add]
    clear hx hp h hle ht hn hm hmo h0
    go_enter Tryz.func55, Tryz.ntmps55
    go_wp2_with fail
    go_region_held3 (fun W' => W'.cell? ⟨p, 4, none⟩ = some (.slice (some ⟨b, o, none⟩) n c) ∧ W'.cell? ⟨b, o + m * 5, none⟩ = some (.int .i64 t.kind) ∧ W'.cell? ⟨b, o + m * 5 + 1, none⟩ = some (.string (bs t.text)) ∧
        W'.cell? ⟨b, o + m * 5 + 2, none⟩ = some (.int .i64 t.n) ∧ W'.cell? ⟨b, o + m * 5 + 3, none⟩ = some (.int .i64 t.line) ∧ W'.cell? ⟨b, o + m * 5 + 4, none⟩ = some (.int .i64 t.col))
      (first | exact ⟨c4, x0, x1, x2, x3, x4⟩ | go_keep) (fail)
    have u1 : Up w (w.alloc (.cells #[.int .i64 t.kind, .string (bs t.text), .int .i64 t.n, .int .i64 t.line, .int .i64 t.col] 45)).drew := ((Fr.refl (fun _ => False) w).alloc _).drew
    have y0 : (w.alloc (.cells #[.int .i64 t.kind, .string (bs t.text), .int .i64 t.n, .int .i64 t.line, .int .i64 t.col] 45)).drew.cell? ⟨w.heap.size, 0, none⟩ = some (.int .i64 t.kind) := by
      show (w.alloc _).cell? _ = _
      rw [cell_of_row _ _ _ _ _ _ (heap_alloc_new _ _)]; rfl
    have y1 : (w.alloc (.cells #[.int .i64 t.kind, .string (bs t.text), .int .i64 t.n, .int .i64 t.line, .int .i64 t.col] 45)).drew.cell? ⟨w.heap.size, 1, none⟩ = some (.string (bs t.text)) := by
      show (w.alloc _).cell? _ = _
      rw [cell_of_row _ _ _ _ _ _ (heap_alloc_new _ _)]; rfl
    generalize (w.alloc (.cells #[.int .i64 t.kind, .string (bs t.text), .int .i64 t.n, .int .i64 t.line, .int .i64 t.col] 45)).drew = w1 at *
    have U := Lib.hid u1
    obtain ⟨kd, tx, tn, tl, tc⟩ := t
    simp only at y0 y1 ⊢
    clear u1 c4 x0 x1 x2 x3 x4 z0 hw hw2 hia
    generalize w.heap.size = q at *
    by_cases hk : kd = 2
    · subst hk
      have e : mayEnd ⟨2, tx, tn, tl, tc⟩ = true := rfl
      go_wp2_with fail
      go_ret
      exact ⟨by first | rfl | (rw [e]; rfl), U.out⟩
    by_cases hk : kd = 4
    · subst hk
      have e : mayEnd ⟨4, tx, tn, tl, tc⟩ = true := rfl
      go_wp2_with fail
      go_ret
      exact ⟨by first | rfl | (rw [e]; rfl), U.out⟩
    by_cases hk : kd = 5
    · subst hk
      have e : mayEnd ⟨5, tx, tn, tl, tc⟩ = true := rfl
      go_wp2_with fail
      go_ret
      exact ⟨by first | rfl | (rw [e]; rfl), U.out⟩
    by_cases hk : kd = 3
    · subst hk
      obtain ⟨bb, hbb⟩ : ∃ bb, bb = endWords.contains tx := ⟨_, rfl⟩
      have e : mayEnd ⟨3, tx, tn, tl, tc⟩ = bb := by rw [hbb]; simp [mayEnd]
      have HB := Lib.hid hbb
      clear hbb
      go_wp2_with fail
      refine (wordMayEnd_any tx).mono ?_
      rintro e' w' ⟨rfl, rfl⟩
      rw [← HB.out]
      go_wp2_with fail
      go_ret
      exact ⟨by first | rfl | (rw [e]; rfl), U.out⟩
    by_cases hk : kd = 6
    · subst hk
      have e : mayEnd ⟨6, tx, tn, tl, tc⟩ = (tx == [41] || tx == [93] || tx == [125]) := by simp [mayEnd]
      have E := Lib.hid e
      clear e
      have k1 : ((bs tx).toList == [41]) = (tx == [41]) := by rw [bs_list]
      have k2 : ((bs tx).toList == [93]) = (tx == [93]) := by rw [bs_list]
      have k3 : ((bs tx).toList == [125]) = (tx == [125]) := by rw [bs_list]
      cases h1 : (tx == [41])
      · rw [h1] at k1
        cases h2 : (tx == [93])
        · rw [h2] at k2
          cases h3 : (tx == [125])
          · rw [h3] at k3
            have e : mayEnd ⟨6, tx, tn, tl, tc⟩ = false := by rw [E.out, h1, h2, h3]; rfl
            clear h1 h2 h3
            go_wp2_with fail
            go_ret
            exact ⟨by first | rfl | (rw [e]; rfl), U.out⟩
          · rw [h3] at k3
            have e : mayEnd ⟨6, tx, tn, tl, tc⟩ = true := by rw [E.out, h1, h2, h3]; rfl
            clear h1 h2 h3
            go_wp2_with fail
            go_ret
            exact ⟨by first | rfl | (rw [e]; rfl), U.out⟩
        · rw [h2] at k2
          have e : mayEnd ⟨6, tx, tn, tl, tc⟩ = true := by rw [E.out, h1, h2]; rfl
          clear h1 h2
          go_wp2_with fail
          go_ret
          exact ⟨by first | rfl | (rw [e]; rfl), U.out⟩
      · rw [h1] at k1
        have e : mayEnd ⟨6, tx, tn, tl, tc⟩ = true := by rw [E.out, h1]; rfl
        clear h1
        go_wp2_with fail
        go_ret
        exact ⟨by first | rfl | (rw [e]; rfl), U.out⟩
    · rename_i n2 n4 n5 n3
      have z2 : ((kd : Int) == 2) = false := by simp; omega
      have z3 : ((kd : Int) == 3) = false := by simp; omega
      have z4 : ((kd : Int) == 4) = false := by simp; omega
      have z5 : ((kd : Int) == 5) = false := by simp; omega
      have z6 : ((kd : Int) == 6) = false := by simp; omega
      have e : mayEnd ⟨kd, tx, tn, tl, tc⟩ = false := by simp [mayEnd, n2, n3, n4, n5, hk]
      clear n2 n3 n4 n5 hk
      go_wp2_with fail
      go_ret
      exact ⟨by first | rfl | (rw [e]; rfl), U.out⟩

theorem beqU (c d : UInt8) : ((c.toNat : Int) == (d.toNat : Int)) = decide (c = d) := by
  by_cases h : c = d
  · subst h; simp
  · rw [dec_not h, beq_eq_false_iff_ne]
    exact fun e => h (UInt8.toNat_inj.1 (Int.ofNat_inj.1 e))

def stOf (T : List UInt8) (k line first : Nat) (out : List Tok) : St := ⟨T.drop k, line, k - first + 1, out⟩

/-- Where skip stands still. -/
def Stop (l : List UInt8) (out : List Tok) : Prop := ∀ b r, l = b :: r → (b = 10 → lastEnds out = true) ∧ b ≠ 32 ∧ b ≠ 9 ∧ b ≠ 13 ∧ [47, 47].isPrefixOf l = false

theorem drop_at {T : List UInt8} {k : Nat} {c : UInt8} (h : T[k]? = some c) : T.drop k = c :: T.drop (k + 1) := by
  have hk := (List.getElem?_eq_some_iff.1 h).1
  rw [List.drop_eq_getElem_cons hk, (List.getElem?_eq_some_iff.1 h).2]

theorem step_line {T : List UInt8} {k line first : Nat} {out : List Tok} (h : T[k]? = some 10) (he : lastEnds out = false) : step (stOf T k line first out) = .inl (stOf T (k + 1) (line + 1) (k + 1) out) := by
  simp [step, stOf, drop_at h, he]
theorem step_blank {T : List UInt8} {k line first : Nat} {c : UInt8} {out : List Tok} (h : T[k]? = some c) (hf : first ≤ k) (hc : c = 32 ∨ c = 9 ∨ c = 13) : step (stOf T k line first out) = .inl (stOf T (k + 1) line first out) := by
  have h10 : c ≠ 10 := by rcases hc with rfl | rfl | rfl <;> decide
  simp only [step, stOf, drop_at h, if_neg h10, if_pos hc]
  rw [show k - first + 1 + 1 = k + 1 - first + 1 by omega]
theorem step_comment {T : List UInt8} {k line first : Nat} {out : List Tok} (hf : first ≤ k) (hp : [47, 47].isPrefixOf (T.drop k) = true) :
    step (stOf T k line first out) = .inl (stOf T (k + ((T.drop k).takeWhile (fun c => c ≠ 10)).length) line first out) := by
  obtain ⟨r, hr⟩ := List.isPrefixOf_iff_prefix.1 hp
  have hd : T.drop k = 47 :: 47 :: r := hr.symm
  unfold step stOf
  rw [← List.drop_drop]
  generalize T.drop k = l at *
  subst hd
  simp only [if_neg (show ¬ (47 : UInt8) = 10 by decide), if_neg (show ¬ ((47 : UInt8) = 32 ∨ (47 : UInt8) = 9 ∨ (47 : UInt8) = 13) by decide), hp, if_true]
  congr 2
  omega

structure Skip (w w' : World) (B p : Nat) (T : List UInt8) (k line first : Nat) (v : Value) (out : List Tok) (k' line' first' : Nat) : Prop where
  sc : Sc w' B p T k' line' first' v out
  fr : FrP p w w'
  le : k ≤ k'
  lex : ∀ R, Lex (stOf T k' line' first' out) R → Lex (stOf T k line first out) R

theorem Skip.go {w w' w2 : World} {B p : Nat} {T : List UInt8} {k line first : Nat} {v : Value} {out : List Tok} {k' line' first' k2 l2 f2 : Nat} (h : Skip w w' B p T k line first v out k' line' first')
    (hs : Sc w2 B p T k2 l2 f2 v out) (hf : FrP p w' w2) (hle : k' ≤ k2) (hst : step (stOf T k' line' first' out) = .inl (stOf T k2 l2 f2 out)) : Skip w w2 B p T k line first v out k2 l2 f2 :=
  ⟨hs, h.fr.trans hf (fun _ _ e => e), Nat.le_trans h.le hle, fun R hR => h.lex R (hR.next hst)⟩

theorem Sc.line2 {w : World} {B p : Nat} {T : List UInt8} {m line first : Nat} {v : Value} {out : List Tok} (h : Sc w B p T m line first v out) (l2 : Nat) (hl : l2 ≤ m + 1) :
    Sc ((w.setCell ⟨p, 2, none⟩ (.int .i64 l2)).setCell ⟨p, 3, none⟩ (.int .i64 m)).drew B p T m l2 m v out ∧ FrP p w ((w.setCell ⟨p, 2, none⟩ (.int .i64 l2)).setCell ⟨p, 3, none⟩ (.int .i64 m)).drew :=
  have f := ((fr_set (w := w) (p := p) 2 (.int .i64 l2)).setCell (p := ⟨p, 3, none⟩) (fun _ => rfl) (.int .i64 m)).drew
  ⟨h.put m l2 m f (by show ((w.setCell _ _).setCell _ _).heap[p]? = _; rw [blk_set (blk_set h.obj 2 _) 3 _]; rfl) h.kT (Nat.le_refl _) hl, f⟩
theorem Sc.line2' {w : World} {B p : Nat} {T : List UInt8} {m line first : Nat} {v : Value} {out : List Tok} (h : Sc w B p T m line first v out) (l2 : Nat) (hl : l2 ≤ m + 1) :
    Sc ((w.setCell ⟨p, 3, none⟩ (.int .i64 m)).setCell ⟨p, 2, none⟩ (.int .i64 l2)).drew B p T m l2 m v out ∧ FrP p w ((w.setCell ⟨p, 3, none⟩ (.int .i64 m)).setCell ⟨p, 2, none⟩ (.int .i64 l2)).drew :=
  have f := ((fr_set (w := w) (p := p) 3 (.int .i64 m)).setCell (p := ⟨p, 2, none⟩) (fun _ => rfl) (.int .i64 l2)).drew
  ⟨h.put m l2 m f (by show ((w.setCell _ _).setCell _ _).heap[p]? = _; rw [blk_set (blk_set h.obj 3 _) 2 _]; rfl) h.kT (Nat.le_refl _) hl, f⟩

set_option maxRecDepth 100000 in
set_option maxHeartbeats 2000000 in
theorem skip_any {w : World} {B p : Nat} {T : List UInt8} {k line first : Nat} {v : Value} {out : List Tok} (h : Sc w B p T k line first v out) :
    Calls Tryz.prog 28 #[.pointer (some ⟨p, 0, none⟩)] w fun e w' => e = .returned (.tuple #[]) ∧ ∃ k' line' first', Skip w w' B p T k line first v out k' line' first' ∧ Stop (T.drop k') out := by
  have hT := h.big
  have hsz := bs_size T
  have H := Lib.hid (show Skip w w B p T k line first v out k line first from ⟨h, Fr.refl _ _, Nat.le_refl _, fun _ h => h⟩)
  clear h
  go_enter Tryz.func28, Tryz.ntmps28
  go_wp2_with fail
  go_loopw [] (fun wr => ∃ j lj fj : Nat, Hid (Skip w wr B p T k line first v out j lj fj)) (fun wr => T.length - posOf wr p)
  case atStart => exact ⟨k, line, first, H⟩
  case round =>
    obtain ⟨j, lj, fj, hm⟩ := hrel
    obtain ⟨wo, rfl⟩ : ∃ wo : World, wo = wr := ⟨_, rfl⟩
    have c0 := hm.out.sc.c0
    have c1 := hm.out.sc.c1
    have hjT := hm.out.sc.kT
    have Ps := Lib.hid hm.out.sc.pos
    by_cases hlt : j < T.length
    · obtain ⟨c, hc⟩ : ∃ c, T[j]? = some c := ⟨_, List.getElem?_eq_getElem hlt⟩
      have hjs : j < (bs T).size := by rw [hsz]; exact hlt
      have gj := get_bs hjs hc
      have C := Lib.hid hc
      clear hc
      have d1 : decide ((j : Int) < (T.length : Int)) = true := dec_of (by omega)
      have d0 : ((j : Int) < ((bs T).size : Int)) := by omega
      go_wp2_with fail
      go_quiet (fail)
      have S1 := Lib.hid (hm.out.sc.drewN nq)
      have F1 := Lib.hid (Fr.drewN (Fr.refl (fun b => b = p) wo) nq)
      have P1 : posOf (wo.drewN nq) p = j := S1.out.pos
      generalize wo.drewN nq = w1 at S1 F1 P1 ⊢
      clear c0 c1
      have c0 := S1.out.c0
      have c1 := S1.out.c1
      go_wp2_with fail
      go_quiet (fail)
      have S2 := Lib.hid (S1.out.drewN nq)
      have F2 := Lib.hid (Fr.drewN F1.out nq)
      generalize w1.drewN nq = w2 at S2 F2 ⊢
      clear c0 c1 S1 F1 P1 gj
      have hcl := UInt8.toNat_lt c
      by_cases h10 : c = 10
      · have q1 : ((c.toNat : Int) == 10) = true := by subst h10; rfl
        cases hE : lastEnds out
        · go_wp2_with fail
          refine (lacksSemi_any S2.out).mono ?_
          rintro e w3 ⟨rfl, u3⟩
          rw [hE]
          have S3 := Lib.hid (S2.out.up u3)
          have F3 := Lib.hid (Fr.trans F2.out (Fr.mono u3 (fun _ _ h => h.elim)) (fun _ _ e => e))
          clear u3
          have c1 := S3.out.c1
          have f1 := S3.out.fr 1
          obtain ⟨m, hm'⟩ : ∃ m, m = j + 1 := ⟨_, rfl⟩
          have hw : (j : Int) + 1 = (m : Int) := by omega
          have Hm := Lib.hid hm'
          clear hm'
          go_wp2_with fail
          have S4 := Lib.hid (S3.out.setAt m (by have := Hm.out; omega) (by have := Hm.out; omega))
          have F4 := Lib.hid (F3.out.setCell (p := ⟨p, 1, none⟩) (fun _ => rfl) (.int .i64 m))
          generalize w3.setCell ⟨p, 1, none⟩ (.int .i64 m) = w4 at S4 F4 ⊢
          clear c1 f1
          have c1 := S4.out.c1
          have c2 := S4.out.c2
          have c3 := S4.out.c3
          have f2 := S4.out.fr 2
          have f3 := S4.out.fr 3
          have lnb := S4.out.ln
          obtain ⟨l2, hl2⟩ : ∃ l2, l2 = lj + 1 := ⟨_, rfl⟩
          have hw2 : (lj : Int) + 1 = (l2 : Int) := by omega
          have hw3 : IntKind.i64.wrap (l2 : Int) = (l2 : Int) := IntWalk.i64_in _ (by have := Hm.out; omega)
          have Hl := Lib.hid hl2
          clear hl2
          have N1 := Lib.hid (S4.out.line2 l2 (by have := Hl.out; have := Hm.out; have := hm.out.sc.ln; omega))
          have N2 := Lib.hid (S4.out.line2' l2 (by have := Hl.out; have := Hm.out; have := hm.out.sc.ln; omega))
          have St := Lib.hid (show step (stOf T j lj fj out) = .inl (stOf T m l2 m out) by rw [Hm.out, Hl.out]; exact step_line (by rw [C.out, h10]) hE)
          have M1 : posOf (((w4.setCell ⟨p, 2, none⟩ (.int .i64 l2)).setCell ⟨p, 3, none⟩ (.int .i64 m)).drew) p = m := N1.out.1.pos
          have M2 : posOf (((w4.setCell ⟨p, 3, none⟩ (.int .i64 m)).setCell ⟨p, 2, none⟩ (.int .i64 l2)).drew) p = m := N2.out.1.pos
          have M0 := Lib.hid M1
          have M3 := Lib.hid M2
          clear M1 M2
          go_region
          all_goals go_wp2_with fail
          all_goals go_roundw
          all_goals first
            | exact ⟨m, l2, m, Lib.hid (hm.out.go N1.out.1 (F4.out.trans N1.out.2 (fun _ _ e => e)) (by have := Hm.out; omega) St.out)⟩
            | exact ⟨m, l2, m, Lib.hid (hm.out.go N2.out.1 (F4.out.trans N2.out.2 (fun _ _ e => e)) (by have := Hm.out; omega) St.out)⟩
            | (rw [M0.out, Ps.out]; have := Hm.out; omega)
            | (rw [M3.out, Ps.out]; have := Hm.out; omega)
        · have St := Lib.hid (show Stop (T.drop j) out from fun b r hb => by
            rw [drop_at C.out, List.cons.injEq] at hb
            obtain ⟨rfl, rfl⟩ := hb
            subst h10
            refine ⟨fun _ => hE, by decide, by decide, by decide, ?_⟩
            rw [drop_at C.out]; rfl)
          have np : ([47, 47] : List UInt8).isPrefixOf (T.drop j) = false := by rw [drop_at C.out, h10]; rfl
          have E1 : (bs T).extract j T.length = bs (T.drop j) := by rw [← hsz]; exact bs_from T j
          go_wp2_with fail
          refine (lacksSemi_any S2.out).mono ?_
          rintro e w3 ⟨rfl, u3⟩
          rw [hE]
          have S3 := Lib.hid (S2.out.up u3)
          have F3 := Lib.hid (Fr.trans F2.out (Fr.mono u3 (fun _ _ h => h.elim)) (fun _ _ e => e))
          clear u3
          have c0 := S3.out.c0
          have c1 := S3.out.c1
          have hj0 : (j : Int) ≤ (bs T).size := by omega
          have q2 : ((c.toNat : Int) == 32) = false := by subst h10; rfl
          have q3 : ((c.toNat : Int) == 9) = false := by subst h10; rfl
          have q4 : ((c.toNat : Int) == 13) = false := by subst h10; rfl
          have HP := Lib.hid (show ∀ w, Calls Tryz.prog 56 #[.string (bs (T.drop j)), .string (bs [47, 47])] w fun e w' => e = .returned (.bool false) ∧ w = w' from fun w => by rw [← np]; exact hasPrefix_any _ _)
          clear np
          go_wp2_with fail
          go_quiet ((first | (go_at_call 56; exact quietS (HP.out _))))
          go_wp2_with fail
          refine bodyPost_ret (v := .tuple #[]) ?_ ?_ ?_
          · kernel_rfl
          · rfl
          exact ⟨rfl, j, lj, fj, ⟨S3.out.drewN nq, Fr.drewN (Fr.trans hm.out.fr F3.out (fun _ _ e => e)) _, hm.out.le, hm.out.lex⟩, St.out⟩
      · have hn10 : c.toNat ≠ 10 := fun e => h10 (UInt8.toNat_inj.1 (by rw [e]; rfl))
        have q1 : ((c.toNat : Int) == 10) = false := beqF hn10
        clear hn10
        have c0 := S2.out.c0
        have c1 := S2.out.c1
        have f1 := S2.out.fr 1
        by_cases hb : c = 32 ∨ c = 9 ∨ c = 13
        · obtain ⟨m, hm'⟩ : ∃ m, m = j + 1 := ⟨_, rfl⟩
          have hw : (j : Int) + 1 = (m : Int) := by omega
          have St := Lib.hid (show step (stOf T j lj fj out) = .inl (stOf T m lj fj out) by rw [hm']; exact step_blank C.out hm.out.sc.fk hb)
          have Hm := Lib.hid hm'
          have S4 := Lib.hid (S2.out.setAt m (by omega) (by omega))
          have F4 := Lib.hid (F2.out.setCell (p := ⟨p, 1, none⟩) (fun _ => rfl) (.int .i64 m))
          clear hm'
          have q2 : ((c.toNat : Int) == 32) = decide (c = 32) := beqU c 32
          have q3 : ((c.toNat : Int) == 9) = decide (c = 9) := beqU c 9
          have q4 : ((c.toNat : Int) == 13) = decide (c = 13) := beqU c 13
          rcases hb with rfl | rfl | rfl
          all_goals go_wp2_with fail
          all_goals generalize w2.setCell ⟨p, 1, none⟩ (.int .i64 m) = w4 at S4 F4 ⊢
          all_goals go_roundw
          all_goals first
            | exact ⟨m, lj, fj, Lib.hid (hm.out.go S4.out F4.out (by have := Hm.out; omega) St.out)⟩
            | (rw [S4.out.pos, Ps.out]; have := Hm.out; omega)
        · have q2 : ((c.toNat : Int) == 32) = false := by rw [show ((c.toNat : Int) == 32) = decide (c = 32) from beqU c 32]; exact dec_not (fun h => hb (.inl h))
          have q3 : ((c.toNat : Int) == 9) = false := by rw [show ((c.toNat : Int) == 9) = decide (c = 9) from beqU c 9]; exact dec_not (fun h => hb (.inr (.inl h)))
          have q4 : ((c.toNat : Int) == 13) = false := by rw [show ((c.toNat : Int) == 13) = decide (c = 13) from beqU c 13]; exact dec_not (fun h => hb (.inr (.inr h)))
          have E1 : (bs T).extract j T.length = bs (T.drop j) := by rw [← hsz]; exact bs_from T j
          have hj0 : (j : Int) ≤ (bs T).size := by omega
          have Hb := Lib.hid hb
          have H10 := Lib.hid h10
          clear hb h10
          cases hp : ([47, 47] : List UInt8).isPrefixOf (T.drop j)
          · have St := Lib.hid (show Stop (T.drop j) out from fun b r hd => by
              have hpp := hp
              rw [drop_at C.out, List.cons.injEq] at hd
              obtain ⟨rfl, rfl⟩ := hd
              exact ⟨fun e => absurd e H10.out, fun e => Hb.out (.inl e), fun e => Hb.out (.inr (.inl e)), fun e => Hb.out (.inr (.inr e)), hpp⟩)
            have HP := Lib.hid (show ∀ w, Calls Tryz.prog 56 #[.string (bs (T.drop j)), .string (bs [47, 47])] w fun e w' => e = .returned (.bool false) ∧ w = w' from fun w => by rw [← hp]; exact hasPrefix_any _ _)
            clear hp
            go_wp2_with fail
            go_quiet ((first | (go_at_call 56; exact quietS (HP.out _))))
            go_wp2_with fail
            refine bodyPost_ret (v := .tuple #[]) ?_ ?_ ?_
            · kernel_rfl
            · rfl
            exact ⟨rfl, j, lj, fj, ⟨S2.out.drewN _, Fr.drewN (Fr.trans hm.out.fr F2.out (fun _ _ e => e)) _, hm.out.le, hm.out.lex⟩, St.out⟩
          · have St := Lib.hid (step_comment (line := lj) (out := out) hm.out.sc.fk hp)
            have Hl := Lib.hid (show 0 < ((T.drop j).takeWhile (fun c => c ≠ 10)).length by
              rw [drop_at C.out, List.takeWhile_cons, if_pos (by simpa using H10.out)]
              simp)
            have HP := Lib.hid (show ∀ w, Calls Tryz.prog 56 #[.string (bs (T.drop j)), .string (bs [47, 47])] w fun e w' => e = .returned (.bool true) ∧ w = w' from fun w => by rw [← hp]; exact hasPrefix_any _ _)
            clear hp
            go_wp2_with fail
            go_quiet ((first | (go_at_call 56; exact quietS (HP.out _))))
            go_wp2_with fail
            refine (skipComment_any (S2.out.drewN _)).mono ?_
            rintro e w3 ⟨rfl, s3, f3⟩
            have S3 := Lib.hid s3
            have F3 := Lib.hid (Fr.trans (F2.out.drewN _) f3 (fun _ _ e => e))
            clear s3 f3
            obtain ⟨m, hm'⟩ : ∃ m, m = j + ((T.drop j).takeWhile (fun c => c ≠ 10)).length := ⟨_, rfl⟩
            rw [← hm'] at S3 St
            have Hm := Lib.hid hm'
            clear hm'
            go_wp2_with fail
            go_roundw
            case rel => exact ⟨m, lj, fj, Lib.hid (hm.out.go S3.out F3.out (by have := Hl.out; have := Hm.out; omega) St.out)⟩
            case measure => rw [S3.out.pos, Ps.out]; have := Hl.out; have := Hm.out; have := S3.out.kT; omega
    · have d1 : decide ((j : Int) < (T.length : Int)) = false := dec_not (by omega)
      have d0 : ¬ ((j : Int) < ((bs T).size : Int)) := by omega
      have St := Lib.hid (show Stop (T.drop j) out from fun b r hd => by rw [List.drop_eq_nil_of_le (by omega)] at hd; cases hd)
      go_wp2_with fail
      go_quiet (fail)
      go_wp2_with fail
      refine bodyPost_end (v := .tuple #[]) (by kernel_rfl) rfl ?_
      exact ⟨rfl, j, lj, fj, ⟨hm.out.sc.drewN _, hm.out.fr.drewN _, hm.out.le, hm.out.lex⟩, St.out⟩
end Go.Proofs.YtmphiefdoaihhaaGreatDoor.Tk

/-
  Package token: the readers.
-/
namespace Go.Proofs.YtmphiefdoaihhaaGreatDoor.Tk
open Go.RowKit
set_option maxRecDepth 100000

def tokV (kind : Nat) (text : List UInt8) (n : Nat) : Value := .agg #[.int .i64 kind, .string (bs text), .int .i64 n, .int .i64 0, .int .i64 0]

/-- What a reader answers. -/
def ReadDone (w : World) (B p : Nat) (T : List UInt8) (k line first : Nat) (v : Value) (out : List Tok) (g : Got) (e : Ending) (w' : World) : Prop := match g with
  | .tok kind text n used => e = .returned (.tuple #[tokV kind text n, .int .i64 0]) ∧ Sc w' B p T (k + used) line first v out ∧ FrP p w w'
  | .err c => e = .returned (.tuple #[tokV 0 [] 0, .int .i64 c]) ∧ FrP p w w'

set_option maxHeartbeats 400000 in
theorem end_any {w : World} (p : Nat) : Calls Tryz.prog 89 #[.pointer (some ⟨p, 0, none⟩)] w fun e w' => e = .returned (.tuple #[tokV 0 [] 0, .int .i64 0]) ∧ Up w w' := by
  go_enter Tryz.func89, Tryz.ntmps89
  go_wp2_with fail
  go_returns
  exact ⟨rfl, (Fr.refl _ _).alloc _⟩

set_option maxHeartbeats 400000 in
theorem inserted_any {w : World} (p : Nat) : Calls Tryz.prog 59 #[.pointer (some ⟨p, 0, none⟩)] w fun e w' => e = .returned (.tuple #[tokV 1 [59] 0, .int .i64 0]) ∧ Up w w' := by
  go_enter Tryz.func59, Tryz.ntmps59
  go_wp2_with fail
  go_returns
  exact ⟨rfl, (Fr.refl _ _).alloc _⟩

/-- The zero token in a block of its own, ahead of a call that turns the scanner alone. -/
def zeroTok : Obj := .cells #[.int .i64 0, .string { data := #[] }, .int .i64 0, .int .i64 0, .int .i64 0] 45
structure Res_ (w w' : World) (p q : Nat) : Prop where
  fr : Fr (fun b => b = p) w w'
  q0 : w.heap.size ≤ q
  blk : w'.heap[q]? = some zeroTok
theorem Res_.start {w : World} {p : Nat} : Res_ w (w.alloc zeroTok) p w.heap.size := ⟨(Fr.refl _ _).alloc _, Nat.le_refl _, heap_alloc_new _ _⟩
theorem Res_.go {w w' w2 : World} {p q : Nat} (h : Res_ w w' p q) (hp : p < w.heap.size) (f : FrP p w' w2) : Res_ w w2 p q :=
  ⟨Fr.trans h.fr f (fun _ _ e => e), h.q0, (f.block q (heap_lt h.blk) (by have := h.q0; omega)).trans h.blk⟩
theorem Res_.cells {w w' : World} {p q : Nat} (h : Res_ w w' p q) : w'.cell? ⟨q, 0, none⟩ = some (.int .i64 0) ∧ w'.cell? ⟨q, 1, none⟩ = some (.string { data := #[] }) ∧ w'.cell? ⟨q, 2, none⟩ = some (.int .i64 0) ∧
    w'.cell? ⟨q, 3, none⟩ = some (.int .i64 0) ∧ w'.cell? ⟨q, 4, none⟩ = some (.int .i64 0) := by
  have := h.blk
  unfold zeroTok at this
  refine ⟨?_, ?_, ?_, ?_, ?_⟩ <;> (rw [cell_of_row _ _ _ _ _ _ this]; rfl)
theorem Res_.frz {w w' : World} {p q : Nat} (h : Res_ w w' p q) (j : Nat) : w'.frozen? ⟨q, j, none⟩ = false := frozen_of_row w' q j _ _ h.blk
abbrev set5 (w' : World) (q : Nat) (u0 u1 u2 u3 u4 : Value) : World := ((((w'.setCell ⟨q, 0, none⟩ u0).setCell ⟨q, 1, none⟩ u1).setCell ⟨q, 2, none⟩ u2).setCell ⟨q, 3, none⟩ u3).setCell ⟨q, 4, none⟩ u4
theorem set5_blk {w' : World} {q : Nat} {c0 c1 c2 c3 c4 : Value} {t : TypeId} (h : w'.heap[q]? = some (.cells #[c0, c1, c2, c3, c4] t (0, 0))) (u0 u1 u2 u3 u4 : Value) :
    (set5 w' q u0 u1 u2 u3 u4).heap[q]? = some (.cells #[u0, u1, u2, u3, u4] t (0, 0)) := by
  rw [blk_set (blk_set (blk_set (blk_set (blk_set h 0 _) 1 _) 2 _) 3 _) 4 _]; rfl
theorem set5_fr (w' : World) (q : Nat) (u0 u1 u2 u3 u4 : Value) : Fr (fun b => b = q) w' (set5 w' q u0 u1 u2 u3 u4) :=
  ((((fr_set 0 u0).setCell (p := ⟨q, 1, none⟩) (fun _ => rfl) u1).setCell (p := ⟨q, 2, none⟩) (fun _ => rfl) u2).setCell (p := ⟨q, 3, none⟩) (fun _ => rfl) u3).setCell (p := ⟨q, 4, none⟩) (fun _ => rfl) u4

/-- A token and an error number, handed back. -/
theorem res_tok {fn : Func} {c t : Nat} (hr : fn.results = #[.cell c 45, .tmp t]) {tmps : Array Value} {w : World} {q : Nat} {cs : Array Value} {e : Value} (h2 : tmps.getD c undef = .pointer (some ⟨q, 0, none⟩)) (h3 : tmps.getD t undef = e)
    (hb : w.heap[q]? = some (.cells cs 45 (0, 0))) (hs : cs.size = 5) : (results fn tmps).run Tryz.prog w = .ok (.tuple #[.agg cs, e]) w := by
  have := run_loadVar_row (P := Tryz.prog) w q 45 45 cs (0, 0) _ hb Tryz.underlying45 rfl (by rw [hs]; kernel_rfl)
  rw [Array.getD_eq_getD_getElem?] at h2 h3
  simp [results, hr, h2, h3, asAddr, this]

theorem Res_.set {w w' : World} {p q : Nat} (h : Res_ w w' p q) {B : Nat} {T : List UInt8} {k line first k' line' first' : Nat} {v : Value} {out : List Tok} (h0 : Sc w B p T k line first v out) (hs : Sc w' B p T k' line' first' v out) (u0 u1 u2 u3 u4 : Value) :
    Sc (set5 w' q u0 u1 u2 u3 u4) B p T k' line' first' v out ∧ FrP p w (set5 w' q u0 u1 u2 u3 u4) ∧ (set5 w' q u0 u1 u2 u3 u4).heap[q]? = some (.cells #[u0, u1, u2, u3, u4] 45 (0, 0)) := by
  have hp := h0.lt
  have hq := h.q0
  refine ⟨hs.kept (set5_fr w' q u0 u1 u2 u3 u4) (by omega) (fun b hb e => by have := (h0.own.lt b hb).2; omega), ?_, set5_blk h.blk u0 u1 u2 u3 u4⟩
  exact Fr.trans h.fr (Fr.mono (set5_fr w' q u0 u1 u2 u3 u4) (T := fun b => b = p ∨ b = q) (fun _ _ e => .inr e)) (fun i hi e => by rcases e with e | e; exact e; omega)

set_option maxHeartbeats 400000 in
theorem semi_any {w : World} {B p : Nat} {T : List UInt8} {k line first : Nat} {v : Value} {out : List Tok} (h : Sc w B p T k line first v out) (hk : T[k]? = some 59) :
    Calls Tryz.prog 60 #[.pointer (some ⟨p, 0, none⟩)] w (ReadDone w B p T k line first v out (.tok 1 [59] 0 1)) := by
  have H := Lib.hid h
  have K := Lib.hid hk
  clear h hk
  go_enter Tryz.func60, Tryz.ntmps60
  go_wp2_with fail
  refine (pass_any (H.out.up ((Fr.refl _ _).alloc _)) 1 (by have := (List.getElem?_eq_some_iff.1 K.out).1; omega)).mono ?_
  rintro e w' ⟨rfl, s1, f1⟩
  have R := Lib.hid (Res_.start.go H.out.lt f1)
  have S1 := Lib.hid s1
  rw [show (T.drop k).take 1 = [59] by rw [drop_at K.out]; rfl]
  obtain ⟨r0, r1, r2, r3, r4⟩ := R.out.cells
  have z0 := R.out.frz 0
  have z1 := R.out.frz 1
  have z2 := R.out.frz 2
  have z3 := R.out.frz 3
  have z4 := R.out.frz 4
  clear s1 f1
  generalize w.heap.size = q at *
  go_wp2_with fail
  obtain ⟨s2, f2, b2⟩ := R.out.set H.out S1.out (.int .i64 1) (.string (bs [59])) (.int .i64 0) (.int .i64 0) (.int .i64 0)
  exact bodyPost_ret (res_tok (c := 2) (t := 3) (by kernel_rfl) rfl rfl b2 rfl) rfl ⟨rfl, s2, f2⟩

theorem take_while_take {q : UInt8 → Bool} : ∀ (l : List UInt8), l.take (l.takeWhile q).length = l.takeWhile q
  | [] => rfl
  | b :: l => by
    rw [List.takeWhile_cons]
    split
    · rw [List.length_cons, List.take_succ_cons, take_while_take l]
    · rfl

set_option maxHeartbeats 1000000 in
theorem name_any {w : World} {B p : Nat} {T : List UInt8} {k line first : Nat} {v : Value} {out : List Tok} (h : Sc w B p T k line first v out) (L : Laid w) (hB : 1 + 0 + 1 ≤ B) {c : UInt8} (hk : T[k]? = some c) (hc : letter c.toNat = true) :
    Calls Tryz.prog 62 #[.pointer (some ⟨p, 0, none⟩)] w (ReadDone w B p T k line first v out (one (T.drop k))) := by
  have hT := h.big
  have hkT := h.kT
  have hsz := bs_size T
  have E1 : (bs T).extract k T.length = bs (T.drop k) := by rw [← hsz]; exact bs_from T k
  have hd : digit c.toNat = false := by
    simp only [letter, Bool.or_eq_true, Bool.and_eq_true, beq_iff_eq, decide_eq_true_eq] at hc
    simp only [digit, Bool.and_eq_false_iff, decide_eq_false_iff_not]
    omega
  have h59 : c ≠ 59 := by rintro rfl; simp [letter] at hc
  obtain ⟨n, hn⟩ : ∃ n, n = ((T.drop k).takeWhile inName).length := ⟨_, rfl⟩
  have e1 : nameLen (T.drop k) = n := by rw [hn, drop_at hk]; simp [nameLen, hd]
  have hnl : k + n ≤ T.length := by
    have := (List.takeWhile_sublist inName (l := T.drop k)).length_le
    rw [List.length_drop] at this
    omega
  have E2 : (T.drop k).take n = (T.drop k).takeWhile inName := by rw [hn]; exact take_while_take _
  have HO : one (T.drop k) = .tok (if isWord ((T.drop k).takeWhile inName) then 3 else 2) ((T.drop k).takeWhile inName) 0 n := by
    rw [hn, drop_at hk]; simp only [one, if_neg h59, hc, if_true]
  obtain ⟨kd, hkd⟩ : ∃ kd, kd = (if isWord ((T.drop k).takeWhile inName) then 3 else 2) := ⟨_, rfl⟩
  rw [← hkd] at HO
  rw [HO]
  have H := Lib.hid h
  have LL := Lib.hid L
  have HK := Lib.hid hkd
  have R0 := Lib.hid (Res_.start (w := w) (p := p))
  have S1 := Lib.hid (h.up ((Fr.refl (fun _ => False) w).alloc zeroTok))
  clear h L HO hc hd hkd
  go_enter Tryz.func62, Tryz.ntmps62
  go_wp2_with fail
  change (Code.region _ _ _).wp _ _ _ (w.alloc zeroTok)
  generalize w.alloc zeroTok = w1 at S1 R0 ⊢
  generalize w.heap.size = q at R0 ⊢
  have S2 := Lib.hid (S1.out.up (Fr.drew (Fr.refl (fun _ => False) w1)))
  have N := Lib.hid (show Calls Tryz.prog 91 #[.string (bs (T.drop k))] w1.drew fun e w' => e = .returned (.int .i64 n) ∧ w1.drew = w' by
    rw [← e1]; exact nameLen_any _ (by rw [List.length_drop]; omega))
  have E2 := Lib.hid E2
  have c0 := S2.out.c0
  have c1 := S2.out.c1
  clear e1 hn
  refine wp_region_held_drew (S := (fun _ => True)) (by kernel_rfl) (by trivial) (fun hHeld => ?_)
  refine held_take (i := 0) (d := some 5) (v := ?_) rfl rfl (by kernel_rfl) (by kernel_rfl) (by kernel_rfl) (fun _ _ _ h => h) (by rfl) ?_ (by assumption) ?_
  rotate_left 1
  focus (intro w hSw; (try dsimp only at hSw); go_simp; first | done | with_reducible rfl)
  simp only [Act.put, List.setIfInBounds_toArray, List.set_cons_zero, List.set_cons_succ]
  refine held_take (i := 1) (d := some 6) (v := ?_) rfl rfl (by kernel_rfl) (by kernel_rfl) (by kernel_rfl) (fun _ _ _ h => h) (by rfl) ?_ (by assumption) ?_
  rotate_left 1
  focus (intro w hSw; (try dsimp only at hSw); go_simp; first | done | with_reducible rfl)
  simp only [Act.put, List.setIfInBounds_toArray, List.set_cons_zero, List.set_cons_succ]
  refine held_take (i := 2) (d := some 7) (v := ?_) rfl rfl (by kernel_rfl) (by kernel_rfl) (by kernel_rfl) (fun _ _ _ h => h) (by rfl) ?_ (by assumption) ?_
  rotate_left 1
  focus (intro w hSw; (try dsimp only at hSw); go_simp; first | done | with_reducible rfl)
  simp only [Act.put, List.setIfInBounds_toArray, List.set_cons_zero, List.set_cons_succ]
  refine held_take (i := 3) (d := some 8) (v := ?_) rfl rfl (by kernel_rfl) (by kernel_rfl) (by kernel_rfl) (fun _ _ _ h => h) (by rfl) ?_ (by assumption) ?_
  rotate_left 1
  focus (intro w hSw; (try dsimp only at hSw); go_simp; first | done | with_reducible rfl)
  simp only [Act.put, List.setIfInBounds_toArray, List.set_cons_zero, List.set_cons_succ]
  refine held_take (i := 5) (d := some 10) (v := ?_) rfl rfl (by kernel_rfl) (by kernel_rfl) (by kernel_rfl) (fun _ _ _ h => h) (by rfl) ?_ (by assumption) ?_
  rotate_left 1
  focus (intro w hSw; (try dsimp only at hSw); go_simp; first | done | with_reducible rfl)
  simp only [Act.put, List.setIfInBounds_toArray, List.set_cons_zero, List.set_cons_succ]
  refine held_take (i := 6) (d := some 11) (v := ?_) rfl rfl (by kernel_rfl) (by kernel_rfl) (by kernel_rfl) (fun _ _ _ h => h) (by rfl) ?_ (by assumption) ?_
  rotate_left 1
  focus (intro w hSw; (try dsimp only at hSw); go_simp; first | done | with_reducible rfl)
  simp only [Act.put, List.setIfInBounds_toArray, List.set_cons_zero, List.set_cons_succ]
  refine held_take (i := 7) (d := some 12) (v := ?_) rfl rfl (by kernel_rfl) (by kernel_rfl) (by kernel_rfl) (fun _ _ _ h => h) (by rfl) ?_ (by assumption) ?_
  rotate_left 1
  focus (intro w hSw; (try dsimp only at hSw); go_simp; first | done | with_reducible rfl)
  simp only [Act.put, List.setIfInBounds_toArray, List.set_cons_zero, List.set_cons_succ]
  refine wpAnyH_ready (rs := [4, 8]) (by kernel_rfl) (by simp) ?_
  refine (AllReadyH.cons (o := _) rfl (fun K hK => ?_) (AllReadyH.cons (o := _) rfl (fun K hK => ?_) AllReadyH.nil))
  · go_simp
    refine hK.out _ _ (by trivial) (fun hHeld => ?_)
    clear hK K
    refine wpAnyH_ready (rs := [8]) (by kernel_rfl) (by simp) ?_
    refine (AllReadyH.cons (o := _) rfl (fun K hK => ?_) AllReadyH.nil)
    go_simp
    refine hK.out _ _ (by trivial) (fun hHeld => ?_)
    clear hK K
    refine held_take (i := 9) (d := some 14) (v := ?_) rfl rfl (by kernel_rfl) (by kernel_rfl) (by kernel_rfl) (fun _ _ _ h => h) (by rfl) ?_ (by assumption) ?_
    rotate_left 1
    focus (intro w hSw; (try dsimp only at hSw); go_simp; first | done | with_reducible rfl)
    simp only [Act.put, List.setIfInBounds_toArray, List.set_cons_zero, List.set_cons_succ]
    refine wpAnyH_ready (rs := [10]) (by kernel_rfl) (by simp) ?_
    refine (AllReadyH.cons (o := _) rfl (fun K hK => ?_) AllReadyH.nil)
    go_simp
    refine N.out.mono ?_
    rintro e w' ⟨rfl, rfl⟩
    go_simp
    refine hK.out _ _ (by trivial) (fun hHeld => ?_)
    clear hK K
    refine wpAnyH_ready (rs := [11]) (by kernel_rfl) (by simp) ?_
    refine (AllReadyH.cons (o := _) rfl (fun K hK => ?_) AllReadyH.nil)
    go_simp
    refine (pass_any S2.out n hnl).mono ?_
    rintro e w2 ⟨rfl, s2, f2⟩
    go_simp
    refine hK.out _ _ (by trivial) (fun hHeld => ?_)
    clear hK K
    refine held_take (i := 12) (d := some 4) (v := ?_) rfl rfl (by kernel_rfl) (by kernel_rfl) (by kernel_rfl) (fun _ _ _ h => h) (by rfl) ?_ (by assumption) ?_
    rotate_left 1
    focus (intro w hSw; (try dsimp only at hSw); go_simp; first | done | with_reducible rfl)
    simp only [Act.put, List.setIfInBounds_toArray, List.set_cons_zero, List.set_cons_succ]
    refine wpAnyH_done (by kernel_rfl) ?_ _
    have S3 := Lib.hid s2
    have R3 := Lib.hid (R0.out.go H.out.lt (Fr.trans (Fr.drew (Fr.refl (fun b => b = p) w1)) f2 (fun _ _ e => e)))
    have L3 := Lib.hid (LL.out.kept R3.out.fr (by have := H.out.lo; omega) (by have := H.out.lo; omega))
    clear s2 f2 c0 c1
    generalize (T.drop k).takeWhile inName = t at *
    go_wp2_with fail
    refine (isWord_any L3.out t).mono ?_
    rintro e w' ⟨rfl, rfl⟩
    obtain ⟨r0, r1, r2, r3, r4⟩ := R3.out.cells
    have z0 := R3.out.frz 0
    have z1 := R3.out.frz 1
    have z2 := R3.out.frz 2
    have z3 := R3.out.frz 3
    have z4 := R3.out.frz 4
    cases hW : isWord t
    · have e3 : kd = 2 := by rw [HK.out, hW]; rfl
      subst e3
      go_wp2_with fail
      obtain ⟨s2, f2, b2⟩ := R3.out.set H.out S3.out (.int .i64 2) (.string (bs t)) (.int .i64 0) (.int .i64 0) (.int .i64 0)
      exact bodyPost_ret (res_tok (c := 2) (t := 3) (by kernel_rfl) rfl rfl b2 rfl) rfl ⟨rfl, s2, f2⟩
    · have e3 : kd = 3 := by rw [HK.out, hW]; rfl
      subst e3
      go_wp2_with fail
      obtain ⟨s2, f2, b2⟩ := R3.out.set H.out S3.out (.int .i64 3) (.string (bs t)) (.int .i64 0) (.int .i64 0) (.int .i64 0)
      exact bodyPost_ret (res_tok (c := 2) (t := 3) (by kernel_rfl) rfl rfl b2 rfl) rfl ⟨rfl, s2, f2⟩
  · go_simp
    refine hK.out _ _ (by trivial) (fun hHeld => ?_)
    clear hK K
    refine wpAnyH_ready (rs := [4]) (by kernel_rfl) (by simp) ?_
    refine (AllReadyH.cons (o := _) rfl (fun K hK => ?_) AllReadyH.nil)
    go_simp
    refine hK.out _ _ (by trivial) (fun hHeld => ?_)
    clear hK K
    refine held_take (i := 9) (d := some 14) (v := ?_) rfl rfl (by kernel_rfl) (by kernel_rfl) (by kernel_rfl) (fun _ _ _ h => h) (by rfl) ?_ (by assumption) ?_
    rotate_left 1
    focus (intro w hSw; (try dsimp only at hSw); go_simp; first | done | with_reducible rfl)
    simp only [Act.put, List.setIfInBounds_toArray, List.set_cons_zero, List.set_cons_succ]
    refine wpAnyH_ready (rs := [10]) (by kernel_rfl) (by simp) ?_
    refine (AllReadyH.cons (o := _) rfl (fun K hK => ?_) AllReadyH.nil)
    go_simp
    refine N.out.mono ?_
    rintro e w' ⟨rfl, rfl⟩
    go_simp
    refine hK.out _ _ (by trivial) (fun hHeld => ?_)
    clear hK K
    refine wpAnyH_ready (rs := [11]) (by kernel_rfl) (by simp) ?_
    refine (AllReadyH.cons (o := _) rfl (fun K hK => ?_) AllReadyH.nil)
    go_simp
    refine (pass_any S2.out n hnl).mono ?_
    rintro e w2 ⟨rfl, s2, f2⟩
    go_simp
    refine hK.out _ _ (by trivial) (fun hHeld => ?_)
    clear hK K
    refine held_take (i := 12) (d := some 4) (v := ?_) rfl rfl (by kernel_rfl) (by kernel_rfl) (by kernel_rfl) (fun _ _ _ h => h) (by rfl) ?_ (by assumption) ?_
    rotate_left 1
    focus (intro w hSw; (try dsimp only at hSw); go_simp; first | done | with_reducible rfl)
    simp only [Act.put, List.setIfInBounds_toArray, List.set_cons_zero, List.set_cons_succ]
    refine wpAnyH_done (by kernel_rfl) ?_ _
    have S3 := Lib.hid s2
    have R3 := Lib.hid (R0.out.go H.out.lt (Fr.trans (Fr.drew (Fr.refl (fun b => b = p) w1)) f2 (fun _ _ e => e)))
    have L3 := Lib.hid (LL.out.kept R3.out.fr (by have := H.out.lo; omega) (by have := H.out.lo; omega))
    clear s2 f2 c0 c1
    generalize (T.drop k).takeWhile inName = t at *
    go_wp2_with fail
    refine (isWord_any L3.out t).mono ?_
    rintro e w' ⟨rfl, rfl⟩
    obtain ⟨r0, r1, r2, r3, r4⟩ := R3.out.cells
    have z0 := R3.out.frz 0
    have z1 := R3.out.frz 1
    have z2 := R3.out.frz 2
    have z3 := R3.out.frz 3
    have z4 := R3.out.frz 4
    cases hW : isWord t
    · have e3 : kd = 2 := by rw [HK.out, hW]; rfl
      subst e3
      go_wp2_with fail
      obtain ⟨s2, f2, b2⟩ := R3.out.set H.out S3.out (.int .i64 2) (.string (bs t)) (.int .i64 0) (.int .i64 0) (.int .i64 0)
      exact bodyPost_ret (res_tok (c := 2) (t := 3) (by kernel_rfl) rfl rfl b2 rfl) rfl ⟨rfl, s2, f2⟩
    · have e3 : kd = 3 := by rw [HK.out, hW]; rfl
      subst e3
      go_wp2_with fail
      obtain ⟨s2, f2, b2⟩ := R3.out.set H.out S3.out (.int .i64 3) (.string (bs t)) (.int .i64 0) (.int .i64 0) (.int .i64 0)
      exact bodyPost_ret (res_tok (c := 2) (t := 3) (by kernel_rfl) rfl rfl b2 rfl) rfl ⟨rfl, s2, f2⟩

/-- What denoted answers: a byte and a length, 0 at what may not stand there. -/
def denV (l : List UInt8) : Value := match denoted l with
  | none => .tuple #[.int .u8 0, .int .i64 0]
  | some (c, n) => .tuple #[.int .u8 c.toNat, .int .i64 n]

set_option maxHeartbeats 1000000 in
theorem denoted_any {w : World} (b : UInt8) (r : List UInt8) (hl : (b :: r).length ≤ 16384) : Calls Tryz.prog 93 #[.string (bs (b :: r))] w fun e w' => e = .returned (denV (b :: r)) ∧ w = w' := by
  have hsz := bs_size (b :: r)
  have g0 := get_bs (l := b :: r) (k := 0) (c := b) (by rw [hsz]; simp) rfl
  have h0 : 0 < (bs (b :: r)).size := by rw [hsz]; simp
  obtain ⟨d, hd⟩ : ∃ d, d = denV (b :: r) := ⟨_, rfl⟩
  rw [← hd]
  by_cases h1 : b.toNat < 32
  · have e : d = .tuple #[.int .u8 0, .int .i64 0] := by rw [hd]; simp [denV, denoted, h1]
    have a1 : (b.toNat : Int) < 32 := by omega
    subst e
    clear hd
    go_enter Tryz.func93, Tryz.ntmps93
    go_wp2
    go_ret2
    exact ⟨rfl, rfl⟩
  by_cases h2 : 126 < b.toNat
  · have e : d = .tuple #[.int .u8 0, .int .i64 0] := by rw [hd]; simp [denV, denoted, h2]
    have a1 : ¬ (b.toNat : Int) < 32 := by omega
    have a2 : (b.toNat : Int) > 126 := by omega
    subst e
    clear hd
    go_enter Tryz.func93, Tryz.ntmps93
    go_wp2
    go_ret2
    exact ⟨rfl, rfl⟩
  have a1 : ¬ (b.toNat : Int) < 32 := by omega
  have a2 : ¬ (b.toNat : Int) > 126 := by omega
  by_cases h3 : b = 92
  · have q3 : ((b.toNat : Int) != 92) = false := by subst h3; rfl
    cases r with
    | nil =>
      have e : d = .tuple #[.int .u8 0, .int .i64 0] := by rw [hd]; simp [denV, denoted, h3]
      have hone : (([b] : List UInt8).length : Int) = 1 := rfl
      rw [show ([b] : List UInt8).length = 1 from rfl] at hsz
      subst e
      clear hd h3
      generalize bs [b] = s at *
      go_enter Tryz.func93, Tryz.ntmps93
      go_wp2
      go_ret2
      exact ⟨rfl, rfl⟩
    | cons c r =>
      have g1 := get_bs (l := b :: c :: r) (k := 1) (c := c) (by rw [hsz]; simp) rfl
      have h1' : 1 < (bs (b :: c :: r)).size := by rw [hsz]; simp
      have hlen : (((b :: c :: r).length : Int) == 1) = false := by simp; omega
      have k1 : ((c.toNat : Int) == 110) = decide (c = 110) := beqU c 110
      have k2 : ((c.toNat : Int) == 116) = decide (c = 116) := beqU c 116
      have k3 : ((c.toNat : Int) == 34) = decide (c = 34) := beqU c 34
      have k4 : ((c.toNat : Int) == 92) = decide (c = 92) := beqU c 92
      obtain ⟨N, hN⟩ : ∃ N, N = (b :: c :: r).length := ⟨_, rfl⟩
      rw [← hN] at hsz hlen
      have H3 := Lib.hid h3
      by_cases c1 : c = 110
      · have e : d = .tuple #[.int .u8 10, .int .i64 2] := by rw [hd]; simp [denV, denoted, h3, c1]
        subst e
        rw [dec_of c1] at k1
        clear hd k2 k3 k4 hN c1
        generalize bs (b :: c :: r) = s at *
        go_enter Tryz.func93, Tryz.ntmps93
        go_wp2
        go_ret2
        exact ⟨rfl, rfl⟩
      rw [dec_not c1] at k1
      by_cases c2 : c = 116
      · have e : d = .tuple #[.int .u8 9, .int .i64 2] := by rw [hd]; simp [denV, denoted, h3, c2]
        subst e
        rw [dec_of c2] at k2
        clear hd k3 k4 hN c1 c2
        generalize bs (b :: c :: r) = s at *
        go_enter Tryz.func93, Tryz.ntmps93
        go_wp2
        go_ret2
        exact ⟨rfl, rfl⟩
      rw [dec_not c2] at k2
      by_cases c3 : c = 34
      · have e : d = .tuple #[.int .u8 c.toNat, .int .i64 2] := by rw [hd]; simp [denV, denoted, h3, c3]
        subst e
        rw [dec_of c3] at k3
        clear hd k4 hN c1 c2 c3
        generalize bs (b :: c :: r) = s at *
        go_enter Tryz.func93, Tryz.ntmps93
        go_wp2
        go_ret2
        exact ⟨rfl, rfl⟩
      rw [dec_not c3] at k3
      by_cases c4 : c = 92
      · have e : d = .tuple #[.int .u8 c.toNat, .int .i64 2] := by rw [hd]; simp [denV, denoted, h3, c4]
        subst e
        rw [dec_of c4] at k4
        clear hd hN c1 c2 c3 c4
        generalize bs (b :: c :: r) = s at *
        go_enter Tryz.func93, Tryz.ntmps93
        go_wp2
        go_ret2
        exact ⟨rfl, rfl⟩
      · have e : d = .tuple #[.int .u8 0, .int .i64 0] := by rw [hd]; simp [denV, denoted, h3, c1, c2, c3, c4]
        subst e
        rw [dec_not c4] at k4
        clear hd hN c1 c2 c3 c4
        generalize bs (b :: c :: r) = s at *
        go_enter Tryz.func93, Tryz.ntmps93
        go_wp2
        go_ret2
        exact ⟨rfl, rfl⟩
  · have e : d = .tuple #[.int .u8 b.toNat, .int .i64 1] := by
      rw [hd]; cases r <;> simp [denV, denoted, h1, h2, h3]
    have q3 : ((b.toNat : Int) != 92) = true := by rw [bne, show ((b.toNat : Int) == 92) = decide (b = 92) from beqU b 92, dec_not h3]; rfl
    subst e
    clear hd
    go_enter Tryz.func93, Tryz.ntmps93
    go_wp2
    go_ret2
    exact ⟨rfl, rfl⟩

/-! sign -/
structure SignInv (w w1 wr : World) (B p : Nat) (T : List UInt8) (k line first : Nat) (v : Value) (out : List Tok) (q : Nat) (j : Nat) : Prop where
  sc : Sc wr B p T k line first v out
  res : Res_ w wr p q
  no : ∀ i x, i < j → signsL[i]? = some x → x.isPrefixOf (T.drop k) = false

theorem find_sign {l : List UInt8} {j : Nat} {x : List UInt8} (hx : signsL[j]? = some x) (h : x.isPrefixOf l = true) (hno : ∀ i y, i < j → signsL[i]? = some y → y.isPrefixOf l = false) : signsL.find? (fun g => g.isPrefixOf l) = some x := by
  have hj := (List.getElem?_eq_some_iff.1 hx).1
  rw [List.find?_eq_some_iff_getElem]
  refine ⟨h, j, hj, (List.getElem?_eq_some_iff.1 hx).2, fun i hi => ?_⟩
  rw [hno i signsL[i] hi (List.getElem?_eq_getElem _)]
  rfl
theorem find_sign_none {l : List UInt8} (hno : ∀ i y, i < 24 → signsL[i]? = some y → y.isPrefixOf l = false) : signsL.find? (fun g => g.isPrefixOf l) = none := by
  rw [List.find?_eq_none]
  intro y hy
  obtain ⟨i, hi⟩ := List.mem_iff_getElem?.1 hy
  rw [hno i y (by have := (List.getElem?_eq_some_iff.1 hi).1; exact this) hi]
  simp

theorem signs_len : ∀ x ∈ signsL, x.length ≤ 2 := by decide

set_option maxHeartbeats 1000000 in
theorem sign_any {w : World} {B p : Nat} {T : List UInt8} {k line first : Nat} {v : Value} {out : List Tok} (h : Sc w B p T k line first v out) (L : Laid w) :
    Calls Tryz.prog 66 #[.pointer (some ⟨p, 0, none⟩)] w (ReadDone w B p T k line first v out (match signsL.find? (fun g => g.isPrefixOf (T.drop k)) with
      | none => .err 10
      | some g => .tok 6 g 0 g.length)) := by
  have hT := h.big
  have hkT := h.kT
  have hsz := bs_size T
  have E1 : (bs T).extract k T.length = bs (T.drop k) := by rw [← hsz]; exact bs_from T k
  obtain ⟨G, hG⟩ : ∃ G, G = (match signsL.find? (fun g => g.isPrefixOf (T.drop k)) with
      | none => Got.err 10
      | some g => .tok 6 g 0 g.length) := ⟨_, rfl⟩
  rw [← hG]
  have HG := Lib.hid hG
  have H := Lib.hid h
  have R := Lib.hid (range_kept L.signs ((Fr.refl (fun _ => False) w).alloc zeroTok) (fun h => h))
  have I := Lib.hid signs_idx
  have V0 := Lib.hid (show SignInv w w (w.alloc zeroTok) B p T k line first v out w.heap.size 0 from ⟨h.up ((Fr.refl _ _).alloc _), Res_.start, fun _ _ h => absurd h (Nat.not_lt_zero _)⟩)
  clear h L hG
  generalize hV : signsV = V at R I
  have hV2 : (Tryz.prog.info? 120).map (·.size) = some V.length := by rw [← hV]; kernel_rfl
  have HV := Lib.hid hV2
  clear hV2 hV
  go_enter Tryz.func66, Tryz.ntmps66
  go_wp2_with (refine wpList_load_mid rfl 120 _ rfl 0 0 rfl V _ R.out Tryz.underlying120 rfl HV.out ?_)
  generalize Value.agg V.toArray = A0 at I ⊢
  change (Code.loop _).wp _ _ _ (w.alloc zeroTok)
  clear R
  generalize w.alloc zeroTok = w1 at V0 ⊢
  generalize w.heap.size = q at V0 ⊢
  clear HV
  go_loopw [7] (fun i wr => ∃ j : Nat, j ≤ 24 ∧ i = .int .i64 j ∧ Hid (SignInv w w wr B p T k line first v out q j)) (fun i _ => 24 - (intOf i).toNat)
  case atStart => exact ⟨0, by decide, rfl, V0⟩
  case round =>
    obtain ⟨j, hj, rfl, hm⟩ := hrel
    have c0 := hm.out.sc.c0
    have c1 := hm.out.sc.c1
    by_cases hlt : j < 24
    · obtain ⟨x, hx⟩ : ∃ x, signsL[j]? = some x := ⟨_, List.getElem?_eq_getElem (by show j < 24; omega)⟩
      have ix := I.out j x hx
      have Hx := Lib.hid hx
      clear hx
      cases hp : x.isPrefixOf (T.drop k)
      · have HP := Lib.hid (show ∀ w, Calls Tryz.prog 56 #[.string (bs (T.drop k)), .string (bs x)] w fun e w' => e = .returned (.bool false) ∧ w = w' from fun w => by rw [← hp]; exact hasPrefix_any _ _)
        have Hp := Lib.hid hp
        clear hp
        go_wp2_with fail
        go_quiet ((first | (go_at_call 56; exact quietS (HP.out _))))
        go_wp2_with fail
        go_roundw
        case rel => exact ⟨j + 1, by omega, by go_num, Lib.hid ⟨hm.out.sc.drewN _, ⟨hm.out.res.fr.drewN _, hm.out.res.q0, hm.out.res.blk⟩, fun i y hi hy => by
          by_cases hij : i = j
          · subst hij; rw [Hx.out] at hy; cases hy; exact Hp.out
          · exact hm.out.no i y (by omega) hy⟩⟩
        case measure => simp [intOf]; omega
      · have HP := Lib.hid (show ∀ w, Calls Tryz.prog 56 #[.string (bs (T.drop k)), .string (bs x)] w fun e w' => e = .returned (.bool true) ∧ w = w' from fun w => by rw [← hp]; exact hasPrefix_any _ _)
        have e : G = .tok 6 x 0 x.length := by rw [HG.out, find_sign Hx.out hp hm.out.no]
        subst e
        obtain ⟨r, hr⟩ := List.isPrefixOf_iff_prefix.1 hp
        have hlen : k + x.length ≤ T.length := by
          have := congrArg List.length hr
          rw [List.length_append, List.length_drop] at this
          omega
        have Ht := Lib.hid (show (T.drop k).take x.length = x by rw [← hr]; simp)
        have hxl := bs_size x
        clear hp HG hr
        go_wp2_with fail
        go_quiet ((first | (go_at_call 56; exact quietS (HP.out _))))
        go_wp2_with fail
        refine (pass_any (hm.out.sc.drewN _) x.length hlen).mono ?_
        rintro e w3 ⟨rfl, s3, f3⟩
        rw [Ht.out]
        have S3 := Lib.hid s3
        have R3 := Lib.hid (Res_.go hm.out.res H.out.lt (Fr.trans (Fr.drewN (Fr.refl (fun b => b = p) _) _) f3 (fun _ _ e => e)))
        clear s3 f3 c0 c1
        obtain ⟨r0, r1, r2, r3, r4⟩ := R3.out.cells
        have z0 := R3.out.frz 0
        have z1 := R3.out.frz 1
        have z2 := R3.out.frz 2
        have z3 := R3.out.frz 3
        have z4 := R3.out.frz 4
        go_wp2_with fail
        obtain ⟨s2, f2, b2⟩ := R3.out.set H.out S3.out (.int .i64 6) (.string (bs x)) (.int .i64 0) (.int .i64 0) (.int .i64 0)
        exact bodyPost_ret (res_tok (c := 2) (t := 3) (by kernel_rfl) rfl rfl b2 rfl) rfl ⟨rfl, s2, f2⟩
    · have hj2 : j = 24 := by omega
      subst hj2
      have e : G = .err 10 := by rw [HG.out, find_sign_none hm.out.no]
      subst e
      clear HG
      obtain ⟨r0, r1, r2, r3, r4⟩ := hm.out.res.cells
      have z0 := hm.out.res.frz 0
      have z1 := hm.out.res.frz 1
      have z2 := hm.out.res.frz 2
      have z3 := hm.out.res.frz 3
      have z4 := hm.out.res.frz 4
      go_wp2_with fail
      obtain ⟨s2, f2, b2⟩ := hm.out.res.set H.out hm.out.sc (.int .i64 0) (.string (bs [])) (.int .i64 0) (.int .i64 0) (.int .i64 0)
      exact bodyPost_ret (res_tok (c := 2) (t := 3) (by kernel_rfl) rfl rfl b2 rfl) rfl ⟨rfl, f2⟩
end Go.Proofs.YtmphiefdoaihhaaGreatDoor.Tk

/-
  Package token: number.
-/
namespace Go.Proofs.YtmphiefdoaihhaaGreatDoor.Tk
open Go.RowKit
set_option maxRecDepth 100000

theorem num_facts (d x : Nat) (hd9 : d ≤ 9) (hx : x ≤ 9223372036854775807) : ∃ D M : Nat, 9223372036854775807 - (d : Int) = (D : Int) ∧ wrap64 (D : Int) = (D : Int) ∧ (D : Int).tdiv 10 = (M : Int) ∧ wrap64 (M : Int) = (M : Int) ∧
    (9223372036854775807 - d) / 10 = M ∧ ((D : Int) / 10 = (M : Int)) ∧ (x ≤ M → wrap64 ((x : Int) * 10) = (x : Int) * 10 ∧ (x : Int) * 10 + d ≤ 9223372036854775807 ∧ wrap64 ((x : Int) * 10 + d) = (x : Int) * 10 + d) := by
  obtain ⟨D, hD⟩ : ∃ D : Nat, (D : Int) = 9223372036854775807 - (d : Int) := ⟨(9223372036854775807 - (d : Int)).toNat, by omega⟩
  obtain ⟨M, hM⟩ : ∃ M : Nat, (M : Int) = (D : Int) / 10 := ⟨((D : Int) / 10).toNat, by omega⟩
  refine ⟨D, M, hD.symm, IntWalk.wrap64_in _ ⟨by omega, by omega⟩, ?_, IntWalk.wrap64_in _ ⟨by omega, by omega⟩, by omega, hM.symm, fun h => ⟨IntWalk.wrap64_in _ ⟨by omega, by omega⟩, by omega, IntWalk.wrap64_in _ ⟨by omega, by omega⟩⟩⟩
  rw [Int.tdiv_eq_ediv_of_nonneg (by omega)]
  exact hM.symm

structure NumInv (w wr : World) (B p : Nat) (T : List UInt8) (k line first : Nat) (v : Value) (out : List Tok) (q j x : Nat) : Prop where
  sc : Sc wr B p T j line first v out
  res : Res_ w wr p q
  le : k ≤ j
  big : x ≤ 9223372036854775807
  go : numGo (T.drop k) 0 0 = numGo (T.drop j) x (j - k)

theorem numGo_step {T : List UInt8} {j x n : Nat} {c : UInt8} (hc : T[j]? = some c) (hd : digit c.toNat = true) :
    numGo (T.drop j) x n = if x > (9223372036854775807 - (c.toNat - 48)) / 10 then none else numGo (T.drop (j + 1)) (x * 10 + (c.toNat - 48)) (n + 1) := by
  rw [drop_at hc]; simp only [numGo, hd, if_true]
theorem numGo_stop {T : List UInt8} {j x n : Nat} (hc : ∀ c, T[j]? = some c → digit c.toNat = false) : numGo (T.drop j) x n = some (x, n) := by
  by_cases h : j < T.length
  · have e := drop_at (List.getElem?_eq_getElem h)
    rw [e]; simp [numGo, hc _ (List.getElem?_eq_getElem h)]
  · rw [List.drop_eq_nil_of_le (by omega)]; rfl

def numG (T : List UInt8) (k : Nat) : Got := match numGo (T.drop k) 0 0 with
  | none => .err 12
  | some (x, n) => .tok 4 ((T.drop k).take n) x n

set_option maxRecDepth 100000 in
set_option maxHeartbeats 2000000 in
theorem number_any {w : World} {B p : Nat} {T : List UInt8} {k line first : Nat} {v : Value} {out : List Tok} (h : Sc w B p T k line first v out) :
    Calls Tryz.prog 64 #[.pointer (some ⟨p, 0, none⟩)] w (ReadDone w B p T k line first v out (numG T k)) := by
  have hT := h.big
  have hkT := h.kT
  have hsz := bs_size T
  obtain ⟨G, hG⟩ : ∃ G, G = numG T k := ⟨_, rfl⟩
  rw [← hG]
  have HG := Lib.hid hG
  have H := Lib.hid h
  have V0 := Lib.hid (show NumInv w (w.alloc zeroTok) B p T k line first v out w.heap.size k 0 from ⟨h.up ((Fr.refl _ _).alloc _), Res_.start, Nat.le_refl _, by decide, by rw [Nat.sub_self]⟩)
  clear h hG
  have c0 := V0.out.sc.c0
  have c1 := V0.out.sc.c1
  unfold zeroTok at c0 c1
  go_enter Tryz.func64, Tryz.ntmps64
  go_wp2_with fail
  change Code.wp _ _ _ _ (w.alloc zeroTok)
  clear c0 c1
  generalize w.alloc zeroTok = w1 at V0 ⊢
  generalize w.heap.size = q at V0 ⊢
  go_loopw [5] (fun i wr => ∃ j x : Nat, i = .int .i64 x ∧ Hid (NumInv w wr B p T k line first v out q j x)) (fun _ wr => T.length - posOf wr p)
  case atStart => exact ⟨k, 0, rfl, V0⟩
  case round =>
    obtain ⟨j, x, rfl, hm⟩ := hrel
    obtain ⟨wo, rfl⟩ : ∃ wo : World, wo = wr := ⟨_, rfl⟩
    have c0 := hm.out.sc.c0
    have c1 := hm.out.sc.c1
    have hjT := hm.out.sc.kT
    have hx := hm.out.big
    have Ps := Lib.hid hm.out.sc.pos
    by_cases hlt : j < T.length
    · obtain ⟨c, hc⟩ : ∃ c, T[j]? = some c := ⟨_, List.getElem?_eq_getElem hlt⟩
      have hjs : j < (bs T).size := by rw [hsz]; exact hlt
      have gj := get_bs hjs hc
      have C := Lib.hid hc
      clear hc
      have d1 : decide ((j : Int) < (T.length : Int)) = true := dec_of (by omega)
      have d0 : ((j : Int) < ((bs T).size : Int)) := by omega
      have hcl := UInt8.toNat_lt c
      cases hD : digit c.toNat
      · have ID := Lib.hid (show ∀ w, Calls Tryz.prog 63 #[.int .u8 c.toNat] w fun e w' => e = .returned (.bool false) ∧ w = w' from fun w => by rw [← hD]; exact isDigit_any _ (UInt8.toNat_lt c))
        go_wp2_with fail
        go_quiet ((first | (go_at_call 63; exact quietS (ID.out _))))
        go_wp2_with fail
        have S1 := Lib.hid (hm.out.sc.drewN nq)
        have R1 := Lib.hid (show Res_ w (wo.drewN nq) p q from ⟨hm.out.res.fr.drewN _, hm.out.res.q0, hm.out.res.blk⟩)
        generalize wo.drewN nq = w2 at S1 R1 ⊢
        clear c0 c1
        have c0 := S1.out.c0
        have c1 := S1.out.c1
        obtain ⟨r0, r1, r2, r3, r4⟩ := R1.out.cells
        have z0 := R1.out.frz 0
        have z1 := R1.out.frz 1
        have z2 := R1.out.frz 2
        have z3 := R1.out.frz 3
        have z4 := R1.out.frz 4
        have hkj := hm.out.le
        have E : (bs T).extract k j = bs ((T.drop k).take (j - k)) := bs_extract T k j
        have a1 : (k : Int) ≤ (j : Int) := by omega
        have a2 : (j : Int) ≤ (bs T).size := by omega
        have e : G = .tok 4 ((T.drop k).take (j - k)) x (j - k) := by rw [HG.out, numG, hm.out.go, numGo_stop (fun c' hc' => by rw [C.out] at hc'; cases hc'; exact hD)]
        subst e
        clear HG
        clear r0 r1 r2 r3 r4 z0 z1 z2 z3 z4
        go_still_tail 12, (by kernel_rfl)
        change wpList _ _ _ _ _ w2.drew
        have S1 := Lib.hid (S1.out.up (Fr.drew (Fr.refl (fun _ => False) w2)))
        have R1 := Lib.hid (show Res_ w w2.drew p q from ⟨R1.out.fr.drew, R1.out.q0, R1.out.blk⟩)
        generalize w2.drew = w3 at S1 R1 ⊢
        clear c0 c1
        obtain ⟨r0, r1, r2, r3, r4⟩ := R1.out.cells
        have z0 := R1.out.frz 0
        have z1 := R1.out.frz 1
        have z2 := R1.out.frz 2
        have z3 := R1.out.frz 3
        have z4 := R1.out.frz 4
        go_wp2_with fail
        obtain ⟨s2, f2, b2⟩ := R1.out.set H.out S1.out (.int .i64 4) (.string (bs ((T.drop k).take (j - k)))) (.int .i64 x) (.int .i64 0) (.int .i64 0)
        exact bodyPost_ret (res_tok (c := 2) (t := 3) (by kernel_rfl) rfl rfl b2 rfl) rfl ⟨rfl, by rw [Nat.add_sub_cancel' hm.out.le]; exact s2, f2⟩
      · have ID := Lib.hid (show ∀ w, Calls Tryz.prog 63 #[.int .u8 c.toNat] w fun e w' => e = .returned (.bool true) ∧ w = w' from fun w => by rw [← hD]; exact isDigit_any _ (UInt8.toNat_lt c))
        obtain ⟨d, hd⟩ : ∃ d, d = c.toNat - 48 := ⟨_, rfl⟩
        have hd9 : d ≤ 9 := by
          simp only [digit, Bool.and_eq_true, decide_eq_true_eq] at hD
          omega
        have hcd : (c.toNat : Int) - 48 = (d : Int) := by
          simp only [digit, Bool.and_eq_true, decide_eq_true_eq] at hD
          omega
        have hu8 : IntKind.u8.wrap (d : Int) = (d : Int) := IntWalk.u8_in _ (by omega)
        have hi64 : IntKind.i64.wrap (d : Int) = (d : Int) := IntWalk.i64_in _ (by omega)
        have Hd := Lib.hid hd
        have HD := Lib.hid hD
        clear hd hD
        go_wp2_with fail
        go_quiet ((first | (go_at_call 63; exact quietS (ID.out _))))
        have S1 := Lib.hid (hm.out.sc.drewN nq)
        have R1 := Lib.hid (show Res_ w (wo.drewN nq) p q from ⟨hm.out.res.fr.drewN _, hm.out.res.q0, hm.out.res.blk⟩)
        generalize wo.drewN nq = w2 at S1 R1 ⊢
        clear c0 c1
        have c0 := S1.out.c0
        have c1 := S1.out.c1
        go_wp2_with fail
        go_quiet (fail)
        have S1 := Lib.hid (S1.out.drewN nq)
        have R1 := Lib.hid (show Res_ w (w2.drewN nq) p q from ⟨R1.out.fr.drewN _, R1.out.q0, R1.out.blk⟩)
        generalize w2.drewN nq = w3 at S1 R1 ⊢
        clear c0 c1
        have c1 := S1.out.c1
        have f1 := S1.out.fr 1
        obtain ⟨r0, r1, r2, r3, r4⟩ := R1.out.cells
        have z0 := R1.out.frz 0
        have z1 := R1.out.frz 1
        have z2 := R1.out.frz 2
        have z3 := R1.out.frz 3
        have z4 := R1.out.frz 4
        obtain ⟨D, M, hD0, hDw, q1, q2, hM, q4, q5⟩ := num_facts d x hd9 hx
        have Stp := Lib.hid (show numGo (T.drop j) x (j - k) = if x > M then none else numGo (T.drop (j + 1)) (x * 10 + d) (j - k + 1) by rw [numGo_step C.out HD.out, ← Hd.out, hM])
        have Q5 := Lib.hid q5
        clear hM q5
        clear gj hjs d0 d1 hsz hcl hu8 hi64 hcd
        by_cases hxM : x > M
        all_goals clear hd9
        · have a1 : (x : Int) > (M : Int) := Int.ofNat_lt.2 hxM
          have e : G = .err 12 := by rw [HG.out, numG, hm.out.go, Stp.out, if_pos hxM]
          subst e
          clear HG
          go_wp2_with fail
          obtain ⟨s2, f2, b2⟩ := R1.out.set H.out S1.out (.int .i64 0) (.string (bs [])) (.int .i64 0) (.int .i64 0) (.int .i64 0)
          exact bodyPost_ret (res_tok (c := 2) (t := 3) (by kernel_rfl) rfl rfl b2 rfl) rfl ⟨rfl, f2⟩
        · have a1 : ¬ (x : Int) > (M : Int) := fun h => hxM (Int.ofNat_lt.1 h)
          obtain ⟨q3, hyb, hyw⟩ := Q5.out (Nat.le_of_not_lt hxM)
          obtain ⟨y, hy⟩ : ∃ y, y = x * 10 + d := ⟨_, rfl⟩
          obtain ⟨m, hm'⟩ : ∃ m, m = j + 1 := ⟨_, rfl⟩
          have hw : (j : Int) + 1 = (m : Int) := by rw [hm']; rfl
          have hyi : (x : Int) * 10 + (d : Int) = (y : Int) := by rw [hy]; rfl
          rw [hyi] at hyb hyw
          have N := Lib.hid (show NumInv w (w3.setCell ⟨p, 1, none⟩ (.int .i64 m)) B p T k line first v out q m y from
            ⟨S1.out.setAt m (by rw [hm']; exact Nat.le_succ j) (by rw [hm']; exact hlt), Res_.go R1.out H.out.lt (fr_set 1 _), by rw [hm']; exact Nat.le_succ_of_le hm.out.le, Int.ofNat_le.1 hyb, by
              rw [hm.out.go, Stp.out, if_neg hxM, ← hy, ← hm']
              congr 1
              rw [hm']
              exact (Nat.succ_sub hm.out.le).symm⟩)
          have Hm := Lib.hid hm'
          clear hy hm'
          go_wp2_with fail
          generalize w3.setCell ⟨p, 1, none⟩ (.int .i64 m) = w4 at N ⊢
          go_roundw
          case rel => exact ⟨m, y, rfl, N⟩
          case measure => rw [N.out.sc.pos, Ps.out]; have := Hm.out; omega
    · have d1 : decide ((j : Int) < (T.length : Int)) = false := dec_not (by omega)
      have d0 : ¬ ((j : Int) < ((bs T).size : Int)) := by omega
      go_wp2_with fail
      go_quiet (fail)
      go_wp2_with fail
      have S1 := Lib.hid (hm.out.sc.drewN nq)
      have R1 := Lib.hid (show Res_ w (wo.drewN nq) p q from ⟨hm.out.res.fr.drewN _, hm.out.res.q0, hm.out.res.blk⟩)
      generalize wo.drewN nq = w2 at S1 R1 ⊢
      clear c0 c1
      have c0 := S1.out.c0
      have c1 := S1.out.c1
      obtain ⟨r0, r1, r2, r3, r4⟩ := R1.out.cells
      have z0 := R1.out.frz 0
      have z1 := R1.out.frz 1
      have z2 := R1.out.frz 2
      have z3 := R1.out.frz 3
      have z4 := R1.out.frz 4
      have hkj := hm.out.le
      have E : (bs T).extract k j = bs ((T.drop k).take (j - k)) := bs_extract T k j
      have a1 : (k : Int) ≤ (j : Int) := by omega
      have a2 : (j : Int) ≤ (bs T).size := by omega
      have e : G = .tok 4 ((T.drop k).take (j - k)) x (j - k) := by rw [HG.out, numG, hm.out.go, numGo_stop (fun c' hc' => by have := (List.getElem?_eq_some_iff.1 hc').1; omega)]
      subst e
      clear HG
      clear r0 r1 r2 r3 r4 z0 z1 z2 z3 z4
      go_still_tail 12, (by kernel_rfl)
      change wpList _ _ _ _ _ w2.drew
      have S1 := Lib.hid (S1.out.up (Fr.drew (Fr.refl (fun _ => False) w2)))
      have R1 := Lib.hid (show Res_ w w2.drew p q from ⟨R1.out.fr.drew, R1.out.q0, R1.out.blk⟩)
      generalize w2.drew = w3 at S1 R1 ⊢
      clear c0 c1
      obtain ⟨r0, r1, r2, r3, r4⟩ := R1.out.cells
      have z0 := R1.out.frz 0
      have z1 := R1.out.frz 1
      have z2 := R1.out.frz 2
      have z3 := R1.out.frz 3
      have z4 := R1.out.frz 4
      go_wp2_with fail
      obtain ⟨s2, f2, b2⟩ := R1.out.set H.out S1.out (.int .i64 4) (.string (bs ((T.drop k).take (j - k)))) (.int .i64 x) (.int .i64 0) (.int .i64 0)
      exact bodyPost_ret (res_tok (c := 2) (t := 3) (by kernel_rfl) rfl rfl b2 rfl) rfl ⟨rfl, by rw [Nat.add_sub_cancel' hm.out.le]; exact s2, f2⟩
end Go.Proofs.YtmphiefdoaihhaaGreatDoor.Tk
