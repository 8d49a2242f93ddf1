/-
  Chapter 3 said as functions on lists of bytes: no function of the program is named here.
-/
import Derived.Test.YtemmdbjcllcelaaDoorOwn
namespace Go.Proofs.YtemmdbjcllcelaaDoor.Tk

def letter (n : Nat) : Bool := n == 95 || (decide (97 ≤ n) && decide (n ≤ 122)) || (decide (65 ≤ n) && decide (n ≤ 90))
def digit (n : Nat) : Bool := decide (48 ≤ n) && decide (n ≤ 57)
def inName (b : UInt8) : Bool := letter b.toNat || digit b.toNat

def wordsL : List (List UInt8) := [[116, 121, 112, 101], [115, 116, 114, 117, 99, 116], [105, 110, 116, 101, 114, 102, 97, 99, 101], [102, 117, 110, 99], [118, 97, 114], [105, 102], [101, 108, 115, 101], [102, 111, 114], [98, 114, 101, 97, 107],
  [99, 111, 110, 116, 105, 110, 117, 101], [114, 101, 116, 117, 114, 110], [112, 114, 105, 110, 116], [108, 101, 110], [109, 97, 107, 101], [110, 101, 119], [105, 110, 112, 117, 116], [116, 114, 117, 101], [102, 97, 108, 115, 101], [110, 105, 108],
  [105, 110, 116], [98, 111, 111, 108], [115, 116, 114, 105, 110, 103]]
def isWord (l : List UInt8) : Bool := wordsL.contains l

def nameLen : List UInt8 → Nat
  | [] => 0
  | b :: l => if digit b.toNat then 0 else ((b :: l).takeWhile inName).length

def isName (l : List UInt8) : Bool := !l.isEmpty && (nameLen l == l.length) && !isWord l

structure Tok where
  kind : Nat
  text : List UInt8
  n : Nat
  line : Nat
  col : Nat

def endWords : List (List UInt8) := [[116, 114, 117, 101], [102, 97, 108, 115, 101], [110, 105, 108], [98, 114, 101, 97, 107], [99, 111, 110, 116, 105, 110, 117, 101], [114, 101, 116, 117, 114, 110], [105, 110, 116], [98, 111, 111, 108], [115, 116, 114, 105, 110, 103]]
def mayEnd (t : Tok) : Bool :=
  t.kind == 2 || t.kind == 4 || t.kind == 5 || (t.kind == 3 && endWords.contains t.text) || (t.kind == 6 && (t.text == [41] || t.text == [93] || t.text == [125]))
def lastEnds (out : List Tok) : Bool := match out.getLast? with
  | none => false
  | some t => mayEnd t

/-- What a number is, from its digits on: its value, and how many they are; none: too great. -/
def numGo : List UInt8 → Nat → Nat → Option (Nat × Nat)
  | [], x, k => some (x, k)
  | b :: l, x, k => if digit b.toNat then (if x > (9223372036854775807 - (b.toNat - 48)) / 10 then none else numGo l (x * 10 + (b.toNat - 48)) (k + 1)) else some (x, k)

/-- The byte that the beginning of a text denotes, and how long that beginning is. -/
def denoted : List UInt8 → Option (UInt8 × Nat)
  | [] => none
  | b :: l => if b.toNat < 32 ∨ 126 < b.toNat then none else if b ≠ 92 then some (b, 1) else match l with
    | [] => none
    | c :: _ => if c = 110 then some (10, 2) else if c = 116 then some (9, 2) else if c = 34 ∨ c = 92 then some (c, 2) else none

/-- A text from behind its quote on: what it tells, and how many bytes it has with the closing quote. -/
def txtGo : Nat → List UInt8 → List UInt8 → Nat → Option (List UInt8 × Nat)
  | 0, _, _, _ => none
  | f + 1, l, acc, k => match l with
    | [] => none
    | b :: _ => if b = 34 then (if 2000 < acc.length then none else some (acc, k + 1)) else match denoted l with
      | none => none
      | some (c, n) => txtGo f (l.drop n) (acc ++ [c]) (k + n)

def signsL : List (List UInt8) := [[58, 61], [61, 61], [33, 61], [60, 61], [62, 61], [38, 38], [124, 124], [43], [45], [42], [47], [37], [60], [62], [61], [33], [40], [41], [91], [93], [123], [125], [44], [46]]

inductive Got where
  | tok (kind : Nat) (text : List UInt8) (n used : Nat)
  | err (e : Nat)

/-- The token at the front. -/
def one (l : List UInt8) : Got := match l with
  | [] => .err 10
  | b :: r =>
    if b = 59 then .tok 1 [59] 0 1
    else if letter b.toNat then let t := l.takeWhile inName; .tok (if isWord t then 3 else 2) t 0 t.length
    else if digit b.toNat then match numGo l 0 0 with
      | none => .err 12
      | some (x, k) => .tok 4 (l.take k) x k
    else if b = 34 then match txtGo l.length r [] 1 with
      | none => .err 11
      | some (t, k) => .tok 5 t 0 k
    else match signsL.find? (fun g => g.isPrefixOf l) with
      | none => .err 10
      | some g => .tok 6 g 0 g.length

inductive Res where
  | ok (out : List Tok)
  | bad (line col e : Nat)

structure St where
  l : List UInt8
  line : Nat
  col : Nat
  out : List Tok

def push (σ : St) (kind : Nat) (text : List UInt8) (n used : Nat) : St ⊕ Res :=
  if σ.out.length = 4000 then .inr (.bad σ.line σ.col 6) else .inl ⟨σ.l.drop used, σ.line, σ.col + used, σ.out ++ [⟨kind, text, n, σ.line, σ.col⟩]⟩

def step (σ : St) : St ⊕ Res := match σ.l with
  | [] => if lastEnds σ.out then push σ 1 [59] 0 0 else if σ.out.length = 4000 then .inr (.bad σ.line σ.col 6) else .inr (.ok (σ.out ++ [⟨0, [], 0, σ.line, σ.col⟩]))
  | b :: r =>
    if b = 10 then (if lastEnds σ.out then push σ 1 [59] 0 0 else .inl ⟨r, σ.line + 1, 1, σ.out⟩)
    else if b = 32 ∨ b = 9 ∨ b = 13 then .inl ⟨r, σ.line, σ.col + 1, σ.out⟩
    else if [47, 47].isPrefixOf σ.l then let t := σ.l.takeWhile (fun c => c ≠ 10); .inl ⟨σ.l.drop t.length, σ.line, σ.col + t.length, σ.out⟩
    else match one σ.l with
      | .err e => .inr (.bad σ.line σ.col e)
      | .tok kind text n used => push σ kind text n used

def runN : Nat → St → Option Res
  | 0, _ => none
  | n + 1, σ => match step σ with
    | .inl σ' => runN n σ'
    | .inr r => some r

def Lex (σ : St) (r : Res) : Prop := ∃ n, runN n σ = some r

theorem Lex.next {σ σ' : St} {r : Res} (h : step σ = .inl σ') (hl : Lex σ' r) : Lex σ r := by
  obtain ⟨n, hn⟩ := hl
  exact ⟨n + 1, by simp [runN, h, hn]⟩
theorem Lex.done {σ : St} {r : Res} (h : step σ = .inr r) : Lex σ r := ⟨1, by simp [runN, h]⟩
theorem runN_more : ∀ {n : Nat} {σ : St} {r : Res}, runN n σ = some r → ∀ m, runN (n + m) σ = some r
  | 0, _, _, h => by simp [runN] at h
  | n + 1, σ, r, h => fun m => by
    rw [Nat.add_right_comm]
    simp only [runN] at h ⊢
    cases hs : step σ with
    | inl σ' => rw [hs] at h; exact runN_more (n := n) h m
    | inr r' => rw [hs] at h; exact h
theorem Lex.det {σ : St} {r r' : Res} (h : Lex σ r) (h' : Lex σ r') : r = r' := by
  obtain ⟨n, hn⟩ := h
  obtain ⟨m, hm⟩ := h'
  have a := runN_more hn m
  have b := runN_more hm n
  rw [Nat.add_comm, a] at b
  exact Option.some.inj b

/-- All: chapter 3.1. -/
def LexAll (l : List UInt8) (r : Res) : Prop := if 16384 < l.length then r = .bad 1 1 6 else Lex ⟨l, 1, 1, []⟩ r


def bs (l : List UInt8) : ByteArray := ⟨l.toArray⟩
theorem bs_size (l : List UInt8) : (bs l).size = l.length := by simp [bs, ByteArray.size]
theorem bs_get (l : List UInt8) (k : Nat) (h : k < (bs l).size) : (bs l)[k] = l[k]'(by rw [bs_size] at h; exact h) := by
  show (bs l).data[k] = _
  simp [bs]
theorem bs_of (s : ByteArray) : s = bs s.data.toList := by simp [bs]
theorem bs_list (l : List UInt8) : (bs l).toList = l := by
  have h : ∀ (b : ByteArray), b.toList = b.data.toList := fun b => by first | rfl | exact ByteArray.toList_eq b | simp
  rw [h]; simp [bs]
end Go.Proofs.YtemmdbjcllcelaaDoor.Tk
