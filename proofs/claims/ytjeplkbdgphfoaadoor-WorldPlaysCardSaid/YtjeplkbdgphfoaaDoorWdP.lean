/-
  Print of a World.
-/
import Derived.Test.YtjeplkbdgphfoaaDoorWdBT
import Derived.Test.YtjeplkbdgphfoaaDoorWdStr
namespace Go.Proofs.YtjeplkbdgphfoaaDoor
open Go.RowKit
set_option maxRecDepth 100000

def lineText (s : WSt) (kind v : Int) : Option ByteArray :=
  if kind = 1 then some (bsv (Lib.itoa (IntKind.i64.wrap v))) else if kind = 2 then some (boolT (v != 0)) else if kind = 3 then some (strAt s.ws v) else none
def printed (s : WSt) (kind v : Int) : List ByteArray :=
  if s.lines.length < 4096 then (match lineText s kind v with
    | some t => s.lines ++ [t]
    | none => s.lines) else s.lines
def PrintW (B : Nat) (w : World) (s : WSt) (kind v : Int) (e : Ending) (w' : World) : Prop :=
  e = .returned (.tuple #[]) ∧ ∃ vt, Does B w s { s with vt := vt, lines := printed s kind v } w'

theorem Does.id {B : Nat} {w w' : World} {s : WSt} (h : Wd B w s) (u : Up w w') : Does B w s { s with vt := s.vt, lines := s.lines } w' := .up h u
theorem boolT_size (b : Bool) : (boolT b).size ≤ 10 := by cases b <;> decide

set_option maxHeartbeats 2000000 in
theorem print_any {B : Nat} {w : World} {s : WSt} (h : Wd B w s) (tb : Tab w) (kind v : Int) (hv : u64b v) :
    Calls Tryd.prog 11 #[.pointer (some ⟨s.q, 0, none⟩), .int .i64 kind, .int .u64 v] w (PrintW B w s kind v) := by
  have H := Lib.hid h
  have TB := Lib.hid tb
  have hv0 := hv.1
  have hv1 := hv.2
  have c0 := h.c0
  clear h tb hv
  by_cases hf : s.lines.length < 4096
  · have F := Lib.hid hf
    have D : decide (4096 ≤ s.lines.length) = false := decide_eq_false (by omega)
    by_cases k1 : kind = 1
    · obtain ⟨z, hz⟩ : ∃ z, IntKind.i64.wrap v = z := ⟨_, rfl⟩
      have hz2 : -9223372036854775808 ≤ z ∧ z ≤ 9223372036854775807 := by rw [← hz, IntKind.wrap_i64]; omega
      have P : Hid (printed s kind v = s.lines ++ [bsv (Lib.itoa z)]) := Lib.hid (by unfold printed lineText; rw [if_pos hf, if_pos k1, hz])
      unfold PrintW
      rw [P.out]
      have hl := itoa_le hz2.1 hz2.2
      subst k1
      clear hf
      go_enter Tryd.func11, Tryd.ntmps11
      go_wp2_with fail
      refine (full_any H.out).mono ?_
      rintro e w1 ⟨rfl, rfl⟩
      rw [D]
      go_wp2_with fail
      refine (format_any z hz2.1 hz2.2 _ TB.out).mono ?_
      rintro e w1 ⟨rfl, u⟩
      have H1 := Lib.hid (H.out.up u)
      have U1 := Lib.hid u
      clear u
      go_wp2_with fail
      refine (line_any H1.out (bsv (Lib.itoa z)) (by rw [bsv_size]; omega) F.out).mono ?_
      rintro e w2 ⟨rfl, vt, hd⟩
      have HD := Lib.hid (Does.after U1.out hd)
      clear hd
      go_wp2_with fail
      go_end0
      exact ⟨rfl, vt, HD.out⟩
    · by_cases k2 : kind = 2
      · have P : Hid (printed s kind v = s.lines ++ [boolT (v != 0)]) := Lib.hid (by unfold printed lineText; rw [if_pos hf, if_neg k1, if_pos k2])
        unfold PrintW
        rw [P.out]
        subst k2
        clear hf
        by_cases hv2 : v = 0
        all_goals
          have hv3 := Lib.hid hv2
          have hvb : (v == 0) = decide (v = 0) := rfl
          go_enter Tryd.func11, Tryd.ntmps11
          go_wp2_with fail
          refine (full_any H.out).mono ?_
          rintro e w1 ⟨rfl, rfl⟩
          rw [D]
          go_wp2_with fail
          refine (formatb_any _ _).mono ?_
          rintro e w1 ⟨rfl, rfl⟩
          go_wp2_with fail
          refine (line_any H.out _ (Nat.le_trans (boolT_size _) (by omega)) F.out).mono ?_
          rintro e w2 ⟨rfl, vt, hd⟩
          have HD := Lib.hid hd
          clear hd
          go_wp2_with fail
          go_end0
          refine ⟨rfl, vt, ?_⟩
          have := HD.out
          first
            | exact this
            | (rw [show (v != 0) = true from by simpa using hv3.out]; exact this)
            | (rw [show (v != 0) = false from by simpa using hv3.out]; exact this)
      · by_cases k3 : kind = 3
        · have P : Hid (printed s kind v = s.lines ++ [strAt s.ws v]) := Lib.hid (by unfold printed lineText; rw [if_pos hf, if_neg k1, if_neg k2, if_pos k3])
          unfold PrintW
          rw [P.out]
          subst k3
          clear hf k1 k2
          have hst := strAt_size s.ws v
          have hsm := H.out.heap.small
          go_enter Tryd.func11, Tryd.ntmps11
          go_wp2_with fail
          refine (full_any H.out).mono ?_
          rintro e w1 ⟨rfl, rfl⟩
          rw [D]
          go_wp2_with fail
          refine (string_any H.out.heap v hv0).mono ?_
          rintro e w1 ⟨rfl, u⟩
          have H1 := Lib.hid (H.out.up u)
          have U1 := Lib.hid u
          clear u
          go_wp2_with fail
          refine (line_any H1.out _ (by omega) F.out).mono ?_
          rintro e w2 ⟨rfl, vt, hd⟩
          have HD := Lib.hid (Does.after U1.out hd)
          clear hd
          go_wp2_with fail
          go_end0
          exact ⟨rfl, vt, HD.out⟩
        · have P : Hid (printed s kind v = s.lines) := Lib.hid (by unfold printed lineText; rw [if_pos hf, if_neg k1, if_neg k2, if_neg k3])
          unfold PrintW
          rw [P.out]
          have b1 : (kind == 1) = false := beq_eq_false_iff_ne.2 k1
          have b2 : (kind == 2) = false := beq_eq_false_iff_ne.2 k2
          have b3 : (kind == 3) = false := beq_eq_false_iff_ne.2 k3
          clear hf k1 k2 k3
          go_enter Tryd.func11, Tryd.ntmps11
          go_wp2_with fail
          refine (full_any H.out).mono ?_
          rintro e w1 ⟨rfl, rfl⟩
          rw [D]
          go_wp2_with fail
          go_end0
          exact ⟨rfl, s.vt, Does.id H.out (Fr.refl _ w)⟩
  · have P : Hid (printed s kind v = s.lines) := Lib.hid (by unfold printed; rw [if_neg hf])
    have D : decide (4096 ≤ s.lines.length) = true := decide_eq_true (by omega)
    unfold PrintW
    rw [P.out]
    clear hf
    go_enter Tryd.func11, Tryd.ntmps11
    go_wp2_with fail
    refine (full_any H.out).mono ?_
    rintro e w1 ⟨rfl, rfl⟩
    rw [D]
    go_wp2_with fail
    (try simp only [Exit.inBlock, Exit.then]); refine bodyPost_ret (results_none rfl _ _ _) rfl ?_
    exact ⟨rfl, s.vt, Does.id H.out (Fr.refl _ w)⟩
end Go.Proofs.YtjeplkbdgphfoaaDoor
