/-
  Name, and Same.
-/
import Derived.Test.YtjlljfeledapaaaDoorKindC
import Derived.Test.YtjlljfeledapaaaDoorShelf
import Derived.Laws.StructEq
namespace Go.Proofs.YtjlljfeledapaaaDoor
open Go.RowKit

theorem up_below {w w' : World} (h : Below w.heap.size w w') : Up w w' := ⟨h.os, h.tape, h.output, h.size, fun k hk _ => h.block k hk⟩

def brackets (n : Nat) : ByteArray := ⟨(Lib.repeatL (ByteArray.mk #[91, 93]).data.toList n).toArray⟩
def nameOf (ts : List Typ) (t : Int) : ByteArray := brackets (nestOf ts 40 t).1 ++ plainOf ts (nestOf ts 40 t).2
theorem nest_le (ts : List Typ) : ∀ n t, (nestOf ts n t).1 ≤ n
  | 0, _ => Nat.le_refl _
  | n + 1, t => by
    unfold nestOf
    split
    · exact Nat.succ_le_succ (nest_le ts n _)
    · exact Nat.zero_le _
theorem nest_yes {ts : List Typ} {n : Nat} {t : Int} (h : isKindB ts t 6 = true) : nestOf ts (n + 1) t = ((nestOf ts n (typ ts t).elem).1 + 1, (nestOf ts n (typ ts t).elem).2) := by
  rw [nestOf, if_pos h]
theorem nest_no {ts : List Typ} {n : Nat} {t : Int} (h : isKindB ts t 6 = false) : nestOf ts n t = (0, t) := by
  cases n with
  | zero => rfl
  | succ n => rw [nestOf, h]; rfl

/-- What the loop of Name has found so far. -/
def Nest (ts : List Typ) (t t' : Int) (k : Nat) : Prop := nestOf ts 40 t = (k + (nestOf ts (40 - k) t').1, (nestOf ts (40 - k) t').2)
theorem Nest.next {ts : List Typ} {t t' : Int} {k : Nat} (h : Nest ts t t' k) (hk : k < 40) (h6 : isKindB ts t' 6 = true) : Nest ts t (typ ts t').elem (k + 1) := by
  unfold Nest at *
  rw [h, show 40 - k = (40 - (k + 1)) + 1 by omega, nest_yes h6]
  simp only [Prod.mk.injEq, and_true]; omega

set_option maxHeartbeats 1000000 in
theorem name_any {w : World} {G : Nat → Prop} {A : Option Addr} {c : Nat} {ts : List Typ} (h : TypsP w G A c ts) (t : Int) (hsz : ∀ t, (plainOf ts t).size ≤ 1000000) :
    Calls Tryd.prog 17 #[.slice A ts.length c, .int .i64 t] w fun e w' => Up w w' ∧ e = .returned (.string (nameOf ts t)) := by
  have hl := h.le
  have hc := h.big
  have H := Lib.hid h
  have fin : ∀ (k : Nat) (t' : Int), Nest ts t t' k → (k = 40 ∨ isKindB ts t' 6 = false) → nameOf ts t = brackets k ++ plainOf ts t' := by
    intro k t' hn hh
    have e : nestOf ts (40 - k) t' = (0, t') := by
      rcases hh with rfl | hh
      · rfl
      · exact nest_no hh
    unfold Nest at hn
    rw [e] at hn
    unfold nameOf
    rw [hn]; rfl
  have Fin := Lib.hid fin
  have Hsz := Lib.hid (show ∀ (k : Nat) t, k ≤ 40 → (Lib.repeatL [91, 93] k).length + (plainOf ts t).size ≤ 9223372036854775807 from fun k t hk => by
    rw [Lib.repeatL_length]; have := hsz t; simp only [List.length_cons, List.length_nil]; omega)
  clear h fin hsz
  go_enter Tryd.func17, Tryd.ntmps17
  go_wp2_with fail
  go_loop [5, 1] (fun d tt => ∃ (k : Nat) (t' : Int), k ≤ 40 ∧ d = .int .i64 k ∧ tt = .int .i64 t' ∧ Hid (Nest ts t t' k)) (fun d _ => 40 - (intOf d).toNat)
  case atStart => exact ⟨0, t, by omega, rfl, rfl, Lib.hid (by unfold Nest; simp)⟩
  case round =>
    obtain ⟨k, t', hk, rfl, rfl, hn⟩ := hrel
    by_cases hlt : k < 40
    · cases h6 : isKindB ts t' 6
      · have H6 := Lib.hid h6
        have E := Lib.hid (Fin.out k t' hn.out (.inr h6))
        clear h6 hn
        go_wp2_with fail
        refine (iskind_any H.out t' 6 false H6.out).mono ?_
        rintro e w' ⟨rfl, rfl⟩
        go_wp2_with fail
        refine (Tryd.strings_Repeat _ k w (by omega) (by show 2 * _ ≤ _; omega)).mono ?_
        rintro e w' ⟨rfl, hu⟩
        have Hu := Lib.hid (up_below hu)
        clear hu
        go_wp2_with fail
        refine (plain_any (TypsP.kept H.out Hu.out (fun _ _ h => h) (fun _ h => h)) t').mono ?_
        rintro e w'' ⟨rfl, rfl⟩
        have hsz := Hsz.out k t' hk
        go_wp2_with fail
        go_ret
        exact ⟨Hu.out, by rw [E.out]; rfl⟩
      · have H6 := Lib.hid h6
        have N := Lib.hid (hn.out.next hlt h6)
        obtain ⟨j, hj, rfl⟩ := isType_out (isKind_type h6)
        rw [typ_at hj] at N
        obtain ⟨b, o, Af, cf, Am, cm, rfl, _, _, _, p0, p1, p2, p3, p4⟩ := H.out.typ hj
        clear h6 hn
        go_wp2_with fail
        refine (iskind_any H.out _ 6 true H6.out).mono ?_
        rintro e w' ⟨rfl, rfl⟩
        go_wp2_with fail
        go_round
        case rel => exact ⟨k + 1, _, by omega, by go_num, rfl, N⟩
        case measure => simp [intOf]; omega
    · obtain rfl : k = 40 := by omega
      have E := Lib.hid (Fin.out 40 t' hn.out (.inl rfl))
      clear hn
      go_wp2_with fail
      refine (Tryd.strings_Repeat _ 40 w (by omega) (by show 2 * _ ≤ _; omega)).mono ?_
      rintro e w' ⟨rfl, hu⟩
      have Hu := Lib.hid (up_below hu)
      clear hu
      go_wp2_with fail
      refine (plain_any (TypsP.kept H.out Hu.out (fun _ _ h => h) (fun _ h => h)) t').mono ?_
      rintro e w'' ⟨rfl, rfl⟩
      have hsz := Hsz.out 40 t' (Nat.le_refl _)
      go_wp2_with fail
      go_ret
      exact ⟨Hu.out, by rw [E.out]; rfl⟩

theorem fldU : Tryd.prog.underlying 49 = some (.struct (Tryd.prog.fieldsOf 49)) := by kernel_rfl
theorem fldH : Tryd.prog.stoodInHeld 49 = false := by kernel_rfl
theorem fldG : Tryd.prog.eqGuardType Tryd.prog.depth 49 = false := by kernel_rfl
theorem run_neq_fld (a b : ByteArray) (x y : Int) (w : World) :
    (binOp .neq 49 (.agg #[.string a, .int .i64 x]) (.agg #[.string b, .int .i64 y])).run Tryd.prog w = .ok (.bool (!(sB a b && x == y))) w := by
  have u3 := Tryd.underlying3
  have a3 := Tryd.isAgg3
  have z3 := Tryd.sizeOf3
  have u4 := Tryd.underlying9
  have a4 := Tryd.isAgg9
  have z4 := Tryd.sizeOf9
  rw [run_neq_struct, show (10000 : Nat) = 9999 + 1 from rfl, run_equalIn_agg w 9999 _ _ _ fldU fldH]
  simp only [Program.fieldsOf, Tryd.underlying49]
  go_simp
  unfold sB
  rw [ByteArray.toList_eq, ByteArray.toList_eq]
  generalize a.data.toList = p
  generalize b.data.toList = q
  by_cases h1 : p = q <;> by_cases h2 : x = y <;> simp [h1, h2]

set_option maxHeartbeats 1000000 in
theorem samefields_any {w : World} {G G' : Nat → Prop} {A A' : Option Addr} {c c' : Nat} {xs ys : List Fld} (h : FldsP w G A c xs) (h' : FldsP w G' A' c' ys) :
    Calls Tryd.prog 18 #[.slice A xs.length c, .slice A' ys.length c'] w fun e w' => Up w w' ∧ e = .returned (.bool (same2 fldB xs ys)) := by
  have hl := h.le
  have hb := h.big
  have hl' := h'.le
  have hb' := h'.big
  by_cases he : xs.length = ys.length
  · rw [← he]
    have H := Lib.hid h
    have H' := Lib.hid h'
    have He := Lib.hid he
    clear h h' he hl' hb'
    go_enter Tryd.func18, Tryd.ntmps18
    go_wp2_with fail
    go_loopw [13] (fun i wr => ∃ k : Nat, k ≤ xs.length ∧ i = .int .i64 k ∧ Hid (Up w wr ∧ ∀ j, j < k → ∀ (ha : j < xs.length) (hb : j < ys.length), fldB xs[j] ys[j] = true)) (fun i _ => xs.length - (intOf i).toNat)
    case atStart => exact ⟨0, Nat.zero_le _, rfl, Lib.hid ⟨Fr.refl _ _, fun _ h => absurd h (Nat.not_lt_zero _)⟩⟩
    case round =>
      obtain ⟨k, hk, rfl, hm⟩ := hrel
      by_cases hlt : k < xs.length
      · have hlt' : k < ys.length := by have := He.out; omega
        obtain ⟨b, o, rfl, _, c0, c1⟩ := (FldsP.kept H.out hm.out.1 (fun _ _ h => h) (fun _ h => h)).fld hlt
        obtain ⟨b', o', rfl, _, d0, d1⟩ := (FldsP.kept H'.out hm.out.1 (fun _ _ h => h) (fun _ h => h)).fld hlt'
        obtain ⟨x, hx⟩ : ∃ x, x = xs[k] := ⟨_, rfl⟩
        obtain ⟨y, hy⟩ : ∃ y, y = ys[k] := ⟨_, rfl⟩
        rw [← hx] at c0 c1
        rw [← hy] at d0 d1
        have Hx := Lib.hid hx
        have Hy := Lib.hid hy
        clear hx hy
        cases hxy : fldB x y
        · have hne := fun w => (run_neq_fld x.name y.name x.type y.type w).trans (by rw [show (sB x.name y.name && x.type == y.type) = false from hxy]; rfl : _ = Result.ok (Value.bool true) w)
          have Hxy := Lib.hid hxy
          clear hxy
          go_wp2_with fail
          go_quiet (fail)
          go_wp2_with fail
          go_ret
          exact ⟨Fr.drewN hm.out.1 _, congrArg (fun b => Ending.returned (.bool b)) (same2_no hlt hlt' (by rw [← Hx.out, ← Hy.out]; exact Hxy.out)).symm⟩
        · have hne := fun w => (run_neq_fld x.name y.name x.type y.type w).trans (by rw [show (sB x.name y.name && x.type == y.type) = true from hxy]; rfl : _ = Result.ok (Value.bool false) w)
          have hn := Lib.hid (show ∀ j, j < k + 1 → ∀ (ha : j < xs.length) (hb : j < ys.length), fldB xs[j] ys[j] = true from below_next hm.out.2 (fun _ _ => by rw [← Hx.out, ← Hy.out]; exact hxy))
          clear hxy
          go_wp2_with fail
          go_quiet (fail)
          go_wp2_with fail
          go_roundw
          case rel => exact ⟨k + 1, by omega, by go_num, Lib.hid ⟨Fr.drewN hm.out.1 _, hn.out⟩⟩
          case measure => simp [intOf]; omega
      · go_wp2_with fail
        go_ret
        exact ⟨hm.out.1, congrArg (fun b => Ending.returned (.bool b)) (same2_yes He.out (fun j ha hb => hm.out.2 j (by omega) ha hb)).symm⟩
  · have e : same2 fldB xs ys = false := same2_no_len he
    rw [e]
    have hn : ((xs.length : Int) != (ys.length : Int)) = true := by simp; omega
    have hn2 : ((xs.length : Int) == (ys.length : Int)) = false := by simp; omega
    clear e he h h'
    go_enter Tryd.func18, Tryd.ntmps18
    go_wp2_with fail
    go_ret
    exact ⟨up_, rfl⟩

set_option maxHeartbeats 1000000 in
theorem samemethods_any {w : World} {G G' : Nat → Prop} {A A' : Option Addr} {c c' : Nat} {xs ys : List Mth} (h : MthsP w G A c xs) (h' : MthsP w G' A' c' ys) :
    Calls Tryd.prog 19 #[.slice A xs.length c, .slice A' ys.length c'] w fun e w' => Up w w' ∧ e = .returned (.bool (same2 mthB xs ys)) := by
  have hl := h.le
  have hb := h.big
  have hl' := h'.le
  have hb' := h'.big
  by_cases he : xs.length = ys.length
  · rw [← he]
    have H := Lib.hid h
    have H' := Lib.hid h'
    have He := Lib.hid he
    clear h h' he hl' hb'
    go_enter Tryd.func19, Tryd.ntmps19
    go_wp2_with fail
    go_loopw [13] (fun i wr => ∃ k : Nat, k ≤ xs.length ∧ i = .int .i64 k ∧ Hid (Up w wr ∧ ∀ j, j < k → ∀ (ha : j < xs.length) (hb : j < ys.length), mthB xs[j] ys[j] = true)) (fun i _ => xs.length - (intOf i).toNat)
    case atStart => exact ⟨0, Nat.zero_le _, rfl, Lib.hid ⟨Fr.refl _ _, fun _ h => absurd h (Nat.not_lt_zero _)⟩⟩
    case round =>
      obtain ⟨k, hk, rfl, hm⟩ := hrel
      by_cases hlt : k < xs.length
      · have hlt' : k < ys.length := by have := He.out; omega
        obtain ⟨b, o, Ap, cp, rfl, _, hp, c0, c1, c2, c3⟩ := (MthsP.kept H.out hm.out.1 (fun _ _ h => h) (fun _ h => h)).mth hlt
        obtain ⟨b', o', Ap', cp', rfl, _, hp', d0, d1, d2, d3⟩ := (MthsP.kept H'.out hm.out.1 (fun _ _ h => h) (fun _ h => h)).mth hlt'
        obtain ⟨x, hx⟩ : ∃ x, x = xs[k] := ⟨_, rfl⟩
        obtain ⟨y, hy⟩ : ∃ y, y = ys[k] := ⟨_, rfl⟩
        rw [← hx] at c0 c1 c2 c3 hp
        rw [← hy] at d0 d1 d2 d3 hp'
        have Hx := Lib.hid hx
        have Hy := Lib.hid hy
        have P := Lib.hid hp
        have P' := Lib.hid hp'
        clear hx hy hp hp'
        by_cases hf : x.func = y.func
        · have e : mthB x y = callB x y := by unfold mthB; rw [hf]; simp
          have E := Lib.hid e
          have b1 : (x.func == y.func) = true := by simpa using hf
          have b2 : (x.func != y.func) = false := by simpa using hf
          clear e hf
          go_wp2_with fail
          go_still_tail 20, (by kernel_rfl)
          change wpList _ _ _ _ _ wr.drew
          have uD : Up wr wr.drew := Fr.drew up_
          generalize wr.drew = w2 at uD
          have UD := Lib.hid uD
          clear uD
          go_wp2_with fail
          refine (samecall_any (x := x) (y := y) (IntsP.kept P.out UD.out (fun _ _ h => h) (fun _ h => h)) (IntsP.kept P'.out UD.out (fun _ _ h => h) (fun _ h => h))).mono ?_
          rintro e w' ⟨hv, rfl⟩
          have Hv := Lib.hid (Up.trans hm.out.1 (Up.trans UD.out hv))
          clear hv
          cases hc : callB x y
          · have Hc := Lib.hid (E.out.trans hc)
            clear hc
            go_wp2_with fail
            go_ret
            exact ⟨Hv.out, congrArg (fun b => Ending.returned (.bool b)) (same2_no hlt hlt' (by rw [← Hx.out, ← Hy.out]; exact Hc.out)).symm⟩
          · have hn := Lib.hid (show ∀ j, j < k + 1 → ∀ (ha : j < xs.length) (hb : j < ys.length), mthB xs[j] ys[j] = true from below_next hm.out.2 (fun _ _ => by rw [← Hx.out, ← Hy.out]; exact E.out.trans hc))
            clear hc
            go_wp2_with fail
            go_roundw
            case rel => exact ⟨k + 1, by omega, by go_num, Lib.hid ⟨Hv.out, hn.out⟩⟩
            case measure => simp [intOf]; omega
        · have b1 : (x.func == y.func) = false := by simpa using hf
          have b2 : (x.func != y.func) = true := by simpa using hf
          have E := Lib.hid (show mthB x y = false by unfold mthB; rw [b1]; rfl)
          clear hf
          go_wp2_with fail
          go_quiet (fail)
          go_wp2_with fail
          go_ret
          exact ⟨Fr.drewN hm.out.1 _, congrArg (fun b => Ending.returned (.bool b)) (same2_no hlt hlt' (by rw [← Hx.out, ← Hy.out]; exact E.out)).symm⟩
      · go_wp2_with fail
        go_ret
        exact ⟨hm.out.1, congrArg (fun b => Ending.returned (.bool b)) (same2_yes He.out (fun j ha hb => hm.out.2 j (by omega) ha hb)).symm⟩
  · have e : same2 mthB xs ys = false := same2_no_len he
    rw [e]
    have hn : ((xs.length : Int) != (ys.length : Int)) = true := by simp; omega
    have hn2 : ((xs.length : Int) == (ys.length : Int)) = false := by simp; omega
    clear e he h h'
    go_enter Tryd.func19, Tryd.ntmps19
    go_wp2_with fail
    go_ret
    exact ⟨up_, rfl⟩

/-- Where Same parts. -/
theorem same_cut (x y : Typ) : sameB x y = (if x.kind = y.kind then (if sB x.name y.name = true then (if x.elem = y.elem then same2 fldB x.fields y.fields && same2 mthB x.methods y.methods else false) else false) else false) := by
  unfold sameB
  by_cases h1 : x.kind = y.kind
  · rw [if_pos h1, h1]
    by_cases h2 : sB x.name y.name = true
    · rw [if_pos h2, h2]
      by_cases h3 : x.elem = y.elem
      · rw [if_pos h3, h3]; simp
      · rw [if_neg h3, beq_eq_false_iff_ne.2 h3]; simp
    · rw [if_neg h2, Bool.eq_false_iff.2 h2]; simp
  · rw [if_neg h1, beq_eq_false_iff_ne.2 h1]; simp

abbrev typCells (x : Typ) (Af : Option Addr) (cf : Nat) (Am : Option Addr) (cm : Nat) : Array Value := #[.int .i64 x.kind, .string x.name, .int .i64 x.elem, .slice Af x.fields.length cf, .slice Am x.methods.length cm]

set_option maxHeartbeats 1000000 in
theorem same_any {w : World} {G G' : Nat → Prop} {x y : Typ} {Af Am Af' Am' : Option Addr} {cf cm cf' cm' : Nat} (hf : FldsP w G Af cf x.fields) (hm : MthsP w G Am cm x.methods) (hf' : FldsP w G' Af' cf' y.fields) (hm' : MthsP w G' Am' cm' y.methods) :
    Calls Tryd.prog 8 #[.agg #[.int .i64 x.kind, .string x.name, .int .i64 x.elem, .slice Af x.fields.length cf, .slice Am x.methods.length cm], .agg #[.int .i64 y.kind, .string y.name, .int .i64 y.elem, .slice Af' y.fields.length cf', .slice Am' y.methods.length cm']] w
      fun e w' => Up w w' ∧ e = .returned (.bool (sameB x y)) := by
  have F := Lib.hid hf
  have M := Lib.hid hm
  have F' := Lib.hid hf'
  have M' := Lib.hid hm'
  clear hf hm hf' hm'
  obtain ⟨r, hr⟩ : ∃ r, r = sameB x y := ⟨_, rfl⟩
  rw [← hr]
  rw [same_cut] at hr
  obtain ⟨xk, xn, xe, xf, xm⟩ := x
  obtain ⟨yk, yn, ye, yf, ym⟩ := y
  simp only at hr F M F' M' ⊢
  by_cases h1 : xk = yk
  · rw [if_pos h1] at hr
    subst h1
    by_cases h2 : sB xn yn = true
    · rw [if_pos h2] at hr
      have hn : (xn.toList == yn.toList) = true := by rw [sB_eq]; exact h2
      clear h2
      by_cases h3 : xe = ye
      · rw [if_pos h3] at hr
        subst h3
        have R := Lib.hid hr
        clear hr
        go_enter Tryd.func8, Tryd.ntmps8
        go_wp2_with fail
        have u2 : Up w ((w.alloc (.cells #[.int .i64 xk, .string xn, .int .i64 xe, .slice Af xf.length cf, .slice Am xm.length cm] 25)).alloc (.cells #[.int .i64 xk, .string yn, .int .i64 xe, .slice Af' yf.length cf', .slice Am' ym.length cm'] 25)) := (up_.alloc _).alloc _
        have U2 := Lib.hid u2
        clear u2
        refine (samefields_any (FldsP.kept F.out U2.out (fun _ _ h => h) (fun _ h => h)) (FldsP.kept F'.out U2.out (fun _ _ h => h) (fun _ h => h))).mono ?_
        rintro e w' ⟨hv, rfl⟩
        have Hv := Lib.hid (Up.trans U2.out hv)
        have mk : ∀ i u, (#[Value.int .i64 xk, .string xn, .int .i64 xe, .slice Af xf.length cf, .slice Am xm.length cm] : Array Value)[i]? = some u → w'.cell? ⟨w.heap.size, i, none⟩ = some u := new_cells (Up.trans (up_.alloc _) hv)
        have mk' : ∀ i u, (#[Value.int .i64 xk, .string yn, .int .i64 xe, .slice Af' yf.length cf', .slice Am' ym.length cm'] : Array Value)[i]? = some u → w'.cell? ⟨w.heap.size + 1, i, none⟩ = some u := by
          intro i u hi
          have := new_cells hv i u hi
          simpa using this
        have m4 := mk 4 _ rfl
        have m4' := mk' 4 _ rfl
        clear hv mk mk'
        cases hc : same2 fldB xf yf
        · have E : r = false := by rw [R.out, hc]; rfl
          subst E
          clear hc
          go_wp2_with fail
          go_ret
          exact ⟨Hv.out, rfl⟩
        · have E := Lib.hid (show r = same2 mthB xm ym by rw [R.out, hc]; rfl)
          clear hc
          go_wp2_with fail
          refine (samemethods_any (MthsP.kept M.out Hv.out (fun _ _ h => h) (fun _ h => h)) (MthsP.kept M'.out Hv.out (fun _ _ h => h) (fun _ h => h))).mono ?_
          rintro e w'' ⟨hv, rfl⟩
          have Hv' := Lib.hid (Up.trans Hv.out hv)
          clear hv
          go_wp2_with fail
          go_ret
          exact ⟨Hv'.out, by rw [E.out]; rfl⟩
      · rw [if_neg h3] at hr
        have b3 : (xe == ye) = false := beq_eq_false_iff_ne.2 h3
        subst hr
        clear h3
        go_enter Tryd.func8, Tryd.ntmps8
        go_wp2_with fail
        go_ret
        exact ⟨(up_.alloc _).alloc _, rfl⟩
    · rw [if_neg h2] at hr
      have hn : (xn.toList == yn.toList) = false := by rw [sB_eq]; exact Bool.eq_false_iff.2 h2
      subst hr
      clear h2
      go_enter Tryd.func8, Tryd.ntmps8
      go_wp2_with fail
      go_ret
      exact ⟨(up_.alloc _).alloc _, rfl⟩
  · rw [if_neg h1] at hr
    have b1 : (xk == yk) = false := beq_eq_false_iff_ne.2 h1
    subst hr
    clear h1
    go_enter Tryd.func8, Tryd.ntmps8
    go_wp2_with fail
    go_ret
    exact ⟨(up_.alloc _).alloc _, rfl⟩
end Go.Proofs.YtjlljfeledapaaaDoor
