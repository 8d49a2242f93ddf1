/-
  Package token: letters, digits, words, names.
-/
import Derived.Test.YtemmdbjcllcelaaDoorProg
import Derived.Test.YtemmdbjcllcelaaDoorTnSpec
import Derived.KernelRfl
import Derived.Deep.MidRow
import Derived.LoopN
import Derived.IntWalk
import Derived.StillTailTactics
import Derived.StillTactics
namespace Go.Proofs.YtemmdbjcllcelaaDoor.Tk
open Go.RowKit
set_option maxRecDepth 100000

theorem dec_of {p : Prop} [Decidable p] (h : p) : decide p = true := decide_eq_true h
theorem dec_not {p : Prop} [Decidable p] (h : ¬ p) : decide p = false := decide_eq_false h

set_option maxHeartbeats 400000 in
theorem isDigit_any {w : World} (n : Nat) (hn : n < 256) : Calls Tryd.prog 44 #[.int .u8 n] w fun e w' => e = .returned (.bool (digit n)) ∧ w = w' := by
  by_cases h1 : 48 ≤ n
  · by_cases h2 : n ≤ 57
    · have a1 : ((n : Int) ≥ 48) := by omega
      have a2 : ((n : Int) ≤ 57) := by omega
      have e : digit n = true := by simp [digit, h1, h2]
      rw [e]
      go_enter Tryd.func44, Tryd.ntmps44
      go_wp2
      go_ret
      exact ⟨rfl, rfl⟩
    · have a1 : ((n : Int) ≥ 48) := by omega
      have a2 : ¬ ((n : Int) ≤ 57) := by omega
      have e : digit n = false := by simp [digit, h2]
      rw [e]
      go_enter Tryd.func44, Tryd.ntmps44
      go_wp2
      go_ret
      exact ⟨rfl, rfl⟩
  · have a1 : ¬ ((n : Int) ≥ 48) := by omega
    have e : digit n = false := by simp [digit, h1]
    rw [e]
    go_enter Tryd.func44, Tryd.ntmps44
    go_wp2
    go_ret
    exact ⟨rfl, rfl⟩

theorem beqT {n : Nat} {k : Nat} (h : n = k) : ((n : Int) == (k : Int)) = true := by subst h; simp
theorem beqF {n : Nat} {k : Nat} (h : n ≠ k) : ((n : Int) == (k : Int)) = false := by simp; omega

set_option maxHeartbeats 800000 in
theorem isLetter_any {w : World} (n : Nat) (hn : n < 256) : Calls Tryd.prog 42 #[.int .u8 n] w fun e w' => e = .returned (.bool (letter n)) ∧ w = w' := by
  by_cases h0 : n = 95
  · have a0 : ((n : Int) == 95) = true := beqT h0
    have e : letter n = true := by simp [letter, h0]
    rw [e]
    go_enter Tryd.func42, Tryd.ntmps42
    go_wp2
    go_ret
    exact ⟨rfl, rfl⟩
  have a0 : ((n : Int) == 95) = false := beqF h0
  by_cases h1 : 97 ≤ n
  · have a1 : ((n : Int) ≥ 97) := by omega
    have a3 : ((n : Int) ≥ 65) := by omega
    have a4 : ¬ ((n : Int) ≤ 90) := by omega
    by_cases h2 : n ≤ 122
    · have a2 : ((n : Int) ≤ 122) := by omega
      have e : letter n = true := by simp [letter, h1, h2]
      rw [e]
      go_enter Tryd.func42, Tryd.ntmps42
      go_wp2
      go_ret
      exact ⟨rfl, rfl⟩
    · have a2 : ¬ ((n : Int) ≤ 122) := by omega
      have e : letter n = false := by simp [letter, h0, h2]; omega
      rw [e]
      go_enter Tryd.func42, Tryd.ntmps42
      go_wp2
      go_ret
      exact ⟨rfl, rfl⟩
  · have a1 : ¬ ((n : Int) ≥ 97) := by omega
    by_cases h3 : 65 ≤ n
    · have a3 : ((n : Int) ≥ 65) := by omega
      by_cases h4 : n ≤ 90
      · have a4 : ((n : Int) ≤ 90) := by omega
        have e : letter n = true := by simp [letter, h3, h4]
        rw [e]
        go_enter Tryd.func42, Tryd.ntmps42
        go_wp2
        go_ret
        exact ⟨rfl, rfl⟩
      · have a4 : ¬ ((n : Int) ≤ 90) := by omega
        have e : letter n = false := by simp [letter, h0, h1, h4]
        rw [e]
        go_enter Tryd.func42, Tryd.ntmps42
        go_wp2
        go_ret
        exact ⟨rfl, rfl⟩
    · have a3 : ¬ ((n : Int) ≥ 65) := by omega
      have e : letter n = false := by simp [letter, h0, h1, h3]
      rw [e]
      go_enter Tryd.func42, Tryd.ntmps42
      go_wp2
      go_ret
      exact ⟨rfl, rfl⟩

/-- The program's variables: the words, the signs. -/
def wordsV : List Value := wordsL.map (fun x => .string (bs x))
def signsV : List Value := signsL.map (fun x => .string (bs x))
structure Laid (w : World) : Prop where
  words : w.rangeAt 2 0 wordsV
  signs : w.rangeAt 1 0 signsV

theorem range_kept {S : Nat → Prop} {w w' : World} {b o : Nat} {cs : List Value} (h : w.rangeAt b o cs) (hf : Fr S w w') (hb : ¬ S b) : w'.rangeAt b o cs :=
  fun j v hj => (hf.cell (p := ⟨b, o + j, none⟩) (World.block_lt_of_cell? w _ (h j v hj)) hb).trans (h j v hj)
theorem Laid.kept {S : Nat → Prop} {w w' : World} (h : Laid w) (hf : Fr S w w') (h0 : ¬ S 2) (h2 : ¬ S 1) : Laid w' := ⟨range_kept h.words hf h0, range_kept h.signs hf h2⟩

/-- An array of texts, indexed. -/
def ArrIs (t : TypeId) (A0 : Value) (L : List (List UInt8)) : Prop := ∀ (j : Nat) (x : List UInt8), L[j]? = some x → ∀ w, (Instr.index t A0 (.int .i64 j)).run Tryd.prog w = .ok (.string (bs x)) w

set_option maxRecDepth 100000 in
theorem words_idx : ArrIs 94 (.agg wordsV.toArray) wordsL := by
  intro j x h
  have hj : j < 22 := (List.getElem?_eq_some_iff.1 h).1
  match j, hj with
  | 0, _ => simp only [wordsL, List.getElem?_cons_zero, Option.some.injEq] at h; subst h; exact fun _ => by kernel_rfl
  | 1, _ => simp only [wordsL, List.getElem?_cons_zero, List.getElem?_cons_succ, Option.some.injEq] at h; subst h; exact fun _ => by kernel_rfl
  | 2, _ => simp only [wordsL, List.getElem?_cons_zero, List.getElem?_cons_succ, Option.some.injEq] at h; subst h; exact fun _ => by kernel_rfl
  | 3, _ => simp only [wordsL, List.getElem?_cons_zero, List.getElem?_cons_succ, Option.some.injEq] at h; subst h; exact fun _ => by kernel_rfl
  | 4, _ => simp only [wordsL, List.getElem?_cons_zero, List.getElem?_cons_succ, Option.some.injEq] at h; subst h; exact fun _ => by kernel_rfl
  | 5, _ => simp only [wordsL, List.getElem?_cons_zero, List.getElem?_cons_succ, Option.some.injEq] at h; subst h; exact fun _ => by kernel_rfl
  | 6, _ => simp only [wordsL, List.getElem?_cons_zero, List.getElem?_cons_succ, Option.some.injEq] at h; subst h; exact fun _ => by kernel_rfl
  | 7, _ => simp only [wordsL, List.getElem?_cons_zero, List.getElem?_cons_succ, Option.some.injEq] at h; subst h; exact fun _ => by kernel_rfl
  | 8, _ => simp only [wordsL, List.getElem?_cons_zero, List.getElem?_cons_succ, Option.some.injEq] at h; subst h; exact fun _ => by kernel_rfl
  | 9, _ => simp only [wordsL, List.getElem?_cons_zero, List.getElem?_cons_succ, Option.some.injEq] at h; subst h; exact fun _ => by kernel_rfl
  | 10, _ => simp only [wordsL, List.getElem?_cons_zero, List.getElem?_cons_succ, Option.some.injEq] at h; subst h; exact fun _ => by kernel_rfl
  | 11, _ => simp only [wordsL, List.getElem?_cons_zero, List.getElem?_cons_succ, Option.some.injEq] at h; subst h; exact fun _ => by kernel_rfl
  | 12, _ => simp only [wordsL, List.getElem?_cons_zero, List.getElem?_cons_succ, Option.some.injEq] at h; subst h; exact fun _ => by kernel_rfl
  | 13, _ => simp only [wordsL, List.getElem?_cons_zero, List.getElem?_cons_succ, Option.some.injEq] at h; subst h; exact fun _ => by kernel_rfl
  | 14, _ => simp only [wordsL, List.getElem?_cons_zero, List.getElem?_cons_succ, Option.some.injEq] at h; subst h; exact fun _ => by kernel_rfl
  | 15, _ => simp only [wordsL, List.getElem?_cons_zero, List.getElem?_cons_succ, Option.some.injEq] at h; subst h; exact fun _ => by kernel_rfl
  | 16, _ => simp only [wordsL, List.getElem?_cons_zero, List.getElem?_cons_succ, Option.some.injEq] at h; subst h; exact fun _ => by kernel_rfl
  | 17, _ => simp only [wordsL, List.getElem?_cons_zero, List.getElem?_cons_succ, Option.some.injEq] at h; subst h; exact fun _ => by kernel_rfl
  | 18, _ => simp only [wordsL, List.getElem?_cons_zero, List.getElem?_cons_succ, Option.some.injEq] at h; subst h; exact fun _ => by kernel_rfl
  | 19, _ => simp only [wordsL, List.getElem?_cons_zero, List.getElem?_cons_succ, Option.some.injEq] at h; subst h; exact fun _ => by kernel_rfl
  | 20, _ => simp only [wordsL, List.getElem?_cons_zero, List.getElem?_cons_succ, Option.some.injEq] at h; subst h; exact fun _ => by kernel_rfl
  | 21, _ => simp only [wordsL, List.getElem?_cons_zero, List.getElem?_cons_succ, Option.some.injEq] at h; subst h; exact fun _ => by kernel_rfl

set_option maxRecDepth 100000 in
theorem signs_idx : ArrIs 90 (.agg signsV.toArray) signsL := by
  intro j x h
  have hj : j < 24 := (List.getElem?_eq_some_iff.1 h).1
  match j, hj with
  | 0, _ => simp only [signsL, List.getElem?_cons_zero, Option.some.injEq] at h; subst h; exact fun _ => by kernel_rfl
  | 1, _ => simp only [signsL, List.getElem?_cons_zero, List.getElem?_cons_succ, Option.some.injEq] at h; subst h; exact fun _ => by kernel_rfl
  | 2, _ => simp only [signsL, List.getElem?_cons_zero, List.getElem?_cons_succ, Option.some.injEq] at h; subst h; exact fun _ => by kernel_rfl
  | 3, _ => simp only [signsL, List.getElem?_cons_zero, List.getElem?_cons_succ, Option.some.injEq] at h; subst h; exact fun _ => by kernel_rfl
  | 4, _ => simp only [signsL, List.getElem?_cons_zero, List.getElem?_cons_succ, Option.some.injEq] at h; subst h; exact fun _ => by kernel_rfl
  | 5, _ => simp only [signsL, List.getElem?_cons_zero, List.getElem?_cons_succ, Option.some.injEq] at h; subst h; exact fun _ => by kernel_rfl
  | 6, _ => simp only [signsL, List.getElem?_cons_zero, List.getElem?_cons_succ, Option.some.injEq] at h; subst h; exact fun _ => by kernel_rfl
  | 7, _ => simp only [signsL, List.getElem?_cons_zero, List.getElem?_cons_succ, Option.some.injEq] at h; subst h; exact fun _ => by kernel_rfl
  | 8, _ => simp only [signsL, List.getElem?_cons_zero, List.getElem?_cons_succ, Option.some.injEq] at h; subst h; exact fun _ => by kernel_rfl
  | 9, _ => simp only [signsL, List.getElem?_cons_zero, List.getElem?_cons_succ, Option.some.injEq] at h; subst h; exact fun _ => by kernel_rfl
  | 10, _ => simp only [signsL, List.getElem?_cons_zero, List.getElem?_cons_succ, Option.some.injEq] at h; subst h; exact fun _ => by kernel_rfl
  | 11, _ => simp only [signsL, List.getElem?_cons_zero, List.getElem?_cons_succ, Option.some.injEq] at h; subst h; exact fun _ => by kernel_rfl
  | 12, _ => simp only [signsL, List.getElem?_cons_zero, List.getElem?_cons_succ, Option.some.injEq] at h; subst h; exact fun _ => by kernel_rfl
  | 13, _ => simp only [signsL, List.getElem?_cons_zero, List.getElem?_cons_succ, Option.some.injEq] at h; subst h; exact fun _ => by kernel_rfl
  | 14, _ => simp only [signsL, List.getElem?_cons_zero, List.getElem?_cons_succ, Option.some.injEq] at h; subst h; exact fun _ => by kernel_rfl
  | 15, _ => simp only [signsL, List.getElem?_cons_zero, List.getElem?_cons_succ, Option.some.injEq] at h; subst h; exact fun _ => by kernel_rfl
  | 16, _ => simp only [signsL, List.getElem?_cons_zero, List.getElem?_cons_succ, Option.some.injEq] at h; subst h; exact fun _ => by kernel_rfl
  | 17, _ => simp only [signsL, List.getElem?_cons_zero, List.getElem?_cons_succ, Option.some.injEq] at h; subst h; exact fun _ => by kernel_rfl
  | 18, _ => simp only [signsL, List.getElem?_cons_zero, List.getElem?_cons_succ, Option.some.injEq] at h; subst h; exact fun _ => by kernel_rfl
  | 19, _ => simp only [signsL, List.getElem?_cons_zero, List.getElem?_cons_succ, Option.some.injEq] at h; subst h; exact fun _ => by kernel_rfl
  | 20, _ => simp only [signsL, List.getElem?_cons_zero, List.getElem?_cons_succ, Option.some.injEq] at h; subst h; exact fun _ => by kernel_rfl
  | 21, _ => simp only [signsL, List.getElem?_cons_zero, List.getElem?_cons_succ, Option.some.injEq] at h; subst h; exact fun _ => by kernel_rfl
  | 22, _ => simp only [signsL, List.getElem?_cons_zero, List.getElem?_cons_succ, Option.some.injEq] at h; subst h; exact fun _ => by kernel_rfl
  | 23, _ => simp only [signsL, List.getElem?_cons_zero, List.getElem?_cons_succ, Option.some.injEq] at h; subst h; exact fun _ => by kernel_rfl

theorem eqL (a b : List UInt8) : ((bs a).toList == (bs b).toList) = (a == b) := by rw [bs_list, bs_list]

set_option maxHeartbeats 4000000 in
theorem isWord_any {w : World} (h : Laid w) (l : List UInt8) : Calls Tryd.prog 68 #[.string (bs l)] w fun e w' => e = .returned (.bool (isWord l)) ∧ w = w' := by
  have L := Lib.hid h
  have R := Lib.hid h.words
  have I := Lib.hid words_idx
  clear h
  generalize hV : wordsV = V at R I
  have hV2 : (Tryd.prog.info? 94).map (·.size) = some V.length := by rw [← hV]; kernel_rfl
  clear hV
  have HV := Lib.hid hV2
  clear hV2
  go_enter Tryd.func68, Tryd.ntmps68
  go_wp2_with (refine wpList_load_mid rfl 94 _ rfl 2 0 rfl V _ R.out Tryd.underlying94 rfl HV.out ?_)
  generalize Value.agg V.toArray = A0 at I ⊢
  go_loopw [6] (fun i wr => ∃ k : Nat, k ≤ 22 ∧ i = .int .i64 k ∧ Hid (w = wr ∧ ∀ j x, j < k → wordsL[j]? = some x → x ≠ l)) (fun i _ => 22 - (intOf i).toNat)
  case atStart => exact ⟨0, by decide, rfl, Lib.hid ⟨rfl, fun _ _ h => absurd h (Nat.not_lt_zero _)⟩⟩
  case round =>
    obtain ⟨k, hk, rfl, hm⟩ := hrel
    by_cases hlt : k < 22
    · obtain ⟨x, hx⟩ : ∃ x, wordsL[k]? = some x := ⟨_, List.getElem?_eq_getElem (by show k < 22; omega)⟩
      have ix := I.out k x hx
      have Hx := Lib.hid hx
      clear hx
      by_cases hxl : l = x
      · have e1 : ((bs l).toList == (bs x).toList) = true := by rw [eqL]; simpa using hxl
        go_wp2_with fail
        go_ret
        refine ⟨?_, hm.out.1⟩
        rw [show isWord l = true from by rw [isWord, List.contains_iff_mem, hxl]; exact List.mem_of_getElem? Hx.out]
        rfl
      · have e1 : ((bs l).toList == (bs x).toList) = false := by rw [eqL]; simpa using hxl
        go_wp2_with fail
        go_roundw
        case rel => exact ⟨k + 1, by omega, by go_num, Lib.hid ⟨hm.out.1, fun j y hj hy => by
          by_cases hjk : j = k
          · subst hjk; rw [Hx.out] at hy; cases hy; exact fun e => hxl e.symm
          · exact hm.out.2 j y (by omega) hy⟩⟩
        case measure => simp [intOf]; omega
    · have hk2 : k = 22 := by omega
      subst hk2
      go_wp2_with fail
      go_ret
      refine ⟨?_, hm.out.1⟩
      rw [show isWord l = false from by
        rw [isWord, Bool.eq_false_iff, Ne, List.contains_iff_mem]
        intro hmem
        obtain ⟨j, hj⟩ := List.mem_iff_getElem?.1 hmem
        exact hm.out.2 j l (by have := (List.getElem?_eq_some_iff.1 hj).1; exact this) hj rfl]
      rfl

theorem get_bs {l : List UInt8} {k : Nat} {c : UInt8} (h : k < (bs l).size) (e : l[k]? = some c) : (bs l)[k] = c := by
  rw [bs_get l k h]
  exact (List.getElem?_eq_some_iff.1 e).2

theorem takeWhile_len {p : UInt8 → Bool} : ∀ {l : List UInt8} {k : Nat}, (∀ j c, j < k → l[j]? = some c → p c = true) → k ≤ l.length → (∀ c, l[k]? = some c → p c = false) → (l.takeWhile p).length = k
  | [], k, _, hk, _ => by simp at hk ⊢; omega
  | b :: l, 0, _, _, hs => by simp [hs b rfl]
  | b :: l, k + 1, h, hk, hs => by
    rw [List.takeWhile_cons, if_pos (h 0 b (Nat.succ_pos _) rfl), List.length_cons, takeWhile_len (l := l) (k := k) (fun j c hj hc => h (j + 1) c (by omega) hc) (by simp at hk; omega) (fun c hc => hs c hc)]

set_option maxHeartbeats 4000000 in
theorem nameLen_any {w : World} (l : List UInt8) (hl : l.length ≤ 9223372036854775807) : Calls Tryd.prog 67 #[.string (bs l)] w fun e w' => e = .returned (.int .i64 (nameLen l)) ∧ w = w' := by
  cases l with
  | nil =>
    have e1 : (bs []).toList.isEmpty = true := by rw [bs_list]; rfl
    go_enter Tryd.func67, Tryd.ntmps67
    go_wp2
    go_ret
    exact ⟨rfl, rfl⟩
  | cons b r =>
    have e1 : (bs (b :: r)).toList.isEmpty = false := by rw [bs_list]; rfl
    have ix : ∀ (k : Nat) (c : UInt8) (h : k < (bs (b :: r)).size), (b :: r)[k]? = some c → (bs (b :: r))[k] = c := fun k c h e => get_bs h e
    have hsz := bs_size (b :: r)
    have I := Lib.hid ix
    clear ix
    generalize hs : bs (b :: r) = s at *
    have h0 : 0 < s.size := by rw [hsz]; simp
    have ix0 := I.out 0 b h0 rfl
    clear hs
    have hlen : (b :: r).length ≤ 9223372036854775807 := hl
    obtain ⟨n, hn⟩ : ∃ n, n = (b :: r).length := ⟨_, rfl⟩
    rw [← hn] at hsz hlen
    have Hn := Lib.hid hn
    clear hn hl
    cases hd : digit b.toNat
    · have E : nameLen (b :: r) = ((b :: r).takeWhile inName).length := by simp [nameLen, hd]
      rw [E]
      generalize hll : (b :: r) = l at Hn I
      go_enter Tryd.func67, Tryd.ntmps67
      go_wp2_with fail
      refine (isDigit_any b.toNat (UInt8.toNat_lt b)).mono ?_
      rintro e w' ⟨rfl, rfl⟩
      rw [hd]
      clear hll E
      go_wp2_with fail
      go_loopw [3] (fun i wr => ∃ k : Nat, k ≤ n ∧ i = .int .i64 k ∧ Hid (w = wr ∧ ∀ j c, j < k → l[j]? = some c → inName c = true)) (fun i _ => n - (intOf i).toNat)
      case atStart => exact ⟨0, by omega, rfl, Lib.hid ⟨rfl, fun _ _ h => absurd h (Nat.not_lt_zero _)⟩⟩
      case round =>
        obtain ⟨k, hk, rfl, hm⟩ := hrel
        by_cases hlt : k < n
        · obtain ⟨c, hc⟩ : ∃ c, l[k]? = some c := ⟨_, List.getElem?_eq_getElem (by rw [← Hn.out]; exact hlt)⟩
          have hks : k < s.size := by rw [hsz]; exact hlt
          have gk := I.out k c hks hc
          have C := Lib.hid hc
          clear hc
          cases hL : letter c.toNat
          · cases hD : digit c.toNat
            · go_wp2_with fail
              refine (isLetter_any c.toNat (UInt8.toNat_lt c)).mono ?_
              rintro e w' ⟨rfl, rfl⟩
              rw [hL]
              go_wp2_with fail
              refine (isDigit_any c.toNat (UInt8.toNat_lt c)).mono ?_
              rintro e w' ⟨rfl, rfl⟩
              rw [hD]
              go_wp2_with fail
              go_ret
              refine ⟨?_, hm.out.1⟩
              rw [takeWhile_len hm.out.2 (by rw [← Hn.out]; exact hk) (fun c' hc' => by rw [C.out] at hc'; cases hc'; simp [inName, hL, hD])]
              rfl
            · go_wp2_with fail
              refine (isLetter_any c.toNat (UInt8.toNat_lt c)).mono ?_
              rintro e w' ⟨rfl, rfl⟩
              rw [hL]
              go_wp2_with fail
              refine (isDigit_any c.toNat (UInt8.toNat_lt c)).mono ?_
              rintro e w' ⟨rfl, rfl⟩
              rw [hD]
              go_wp2_with fail
              go_roundw
              case rel => exact ⟨k + 1, by omega, by go_num, Lib.hid ⟨hm.out.1, fun j y hj hy => by
                by_cases hjk : j = k
                · subst hjk; rw [C.out] at hy; cases hy; simp [inName, hD]
                · exact hm.out.2 j y (by omega) hy⟩⟩
              case measure => simp [intOf]; omega
          · go_wp2_with fail
            refine (isLetter_any c.toNat (UInt8.toNat_lt c)).mono ?_
            rintro e w' ⟨rfl, rfl⟩
            rw [hL]
            go_wp2_with fail
            go_roundw
            case rel => exact ⟨k + 1, by omega, by go_num, Lib.hid ⟨hm.out.1, fun j y hj hy => by
              by_cases hjk : j = k
              · subst hjk; rw [C.out] at hy; cases hy; simp [inName, hL]
              · exact hm.out.2 j y (by omega) hy⟩⟩
            case measure => simp [intOf]; omega
        · have hkn : k = n := by omega
          go_wp2_with fail
          go_ret
          refine ⟨?_, hm.out.1⟩
          rw [takeWhile_len hm.out.2 (by rw [← Hn.out]; exact hk) (fun c' hc' => by
            have := (List.getElem?_eq_some_iff.1 hc').1
            rw [← Hn.out] at this
            omega)]
          rfl
    · have E : nameLen (b :: r) = 0 := by simp [nameLen, hd]
      rw [E]
      go_enter Tryd.func67, Tryd.ntmps67
      go_wp2_with fail
      refine (isDigit_any b.toNat (UInt8.toNat_lt b)).mono ?_
      rintro e w' ⟨rfl, rfl⟩
      rw [hd]
      go_wp2_with fail
      go_ret
      exact ⟨rfl, rfl⟩

theorem eE (l : List UInt8) : (bs l).toList.isEmpty = l.isEmpty := by rw [bs_list]
end Go.Proofs.YtemmdbjcllcelaaDoor.Tk
