/-
  The hand's Words, with its parts; rows of tokens, read.
-/
import Derived.Test.YtpobkjnlcengbaaDoorTkU
import Derived.Test.YtpobkjnlcengbaaDoorTkW
import Derived.Test.YtpobkjnlcengbaaDoorTkPure
import Derived.Laws.StructEq
namespace Go.Proofs.YtpobkjnlcengbaaDoor
open Go.RowKit

theorem line_le : ∀ (ps : List (List UInt8 × Option (Nat × List UInt8 × Nat))) (a : Spot), (partsP a ps).line ≤ a.line + ps.length
  | [], _ => Nat.le_refl _
  | p :: ps, a => by
    have := line_le ps (partP a p)
    have h : (partP a p).line ≤ a.line + 1 := by unfold partP; split <;> simp [blankP, tokP, endLine]
    simp only [partsP, List.foldl_cons, List.length_cons] at this ⊢
    omega
theorem part_outs (a : Spot) (p : List UInt8 × Option (Nat × List UInt8 × Nat)) (h : ∀ t ∈ a.out, t.line ≤ a.line) : ∀ t ∈ (partP a p).out, t.line ≤ (partP a p).line := by
  intro t ht
  unfold partP at ht ⊢
  split at ht
  · simp only [blankP, endLine] at ht ⊢
    split at ht
    · rcases List.mem_append.1 ht with h' | h'
      · have := h t h'; omega
      · rw [List.mem_singleton] at h'; subst h'; show a.line ≤ _; omega
    · have := h t ht; omega
  · simp only [blankP, tokP] at ht ⊢
    rcases List.mem_append.1 ht with h' | h'
    · exact h t h'
    · rw [List.mem_singleton] at h'; subst h'; exact Nat.le_refl _
theorem outs_le : ∀ (ps : List (List UInt8 × Option (Nat × List UInt8 × Nat))) (a : Spot), (∀ t ∈ a.out, t.line ≤ a.line) → ∀ t ∈ (partsP a ps).out, t.line ≤ (partsP a ps).line
  | [], _, h => h
  | p :: ps, a, h => outs_le ps (partP a p) (part_outs a p h)
/-- The three texts of two rows of parts. -/
theorem lines_lex2 (pa pb : List (List UInt8 × Option (Nat × List UInt8 × Nat))) (ha : ∀ p ∈ pa, IsPart p.1 p.2) (hb : ∀ p ∈ pb, IsPart p.1 p.2) (la : pa.length ≤ 60) (lb : pb.length ≤ 60)
    (sa : (flat pa).length ≤ 2000) (sb : (flat pb).length ≤ 2000) :
    ∃ (X Y : List Tok) (L : Nat), X.length ≤ 61 ∧ Y.length ≤ 62 ∧ 0 < Y.length ∧ L ≤ 61 ∧ (∀ t ∈ Y, t.line ≤ 61) ∧ LexAll (flat pa ++ [10]) (.ok (X ++ [⟨0, [], 0, L + 1, 1⟩])) ∧ LexAll (flat pb) (.ok Y) ∧ LexAll (flat pa ++ [10] ++ flat pb) (.ok (X ++ Y.map (dn L))) := by
  have h1 := partsP_len pa start
  have h2 := partsP_len pb start
  have hl := endLine_len (partsP start pa)
  have he := endLine_ends (partsP start pa)
  have s0 : start.out.length = 0 := rfl
  have hge : ∀ (ps : List (List UInt8 × Option (Nat × List UInt8 × Nat))) (a : Spot), a.line ≤ (partsP a ps).line := by
    intro ps
    induction ps with
    | nil => intro a; exact Nat.le_refl _
    | cons p ps ih =>
      intro a
      refine Nat.le_trans ?_ (ih (partP a p))
      unfold partP
      split <;> simp [blankP, tokP, endLine]
  have hL := hge pa start
  have s1 : start.line = 1 := rfl
  have T1 : To (flat pa ++ [10]) start [] (endLine (partsP start pa)) := (to_parts pa [10] start ha (by omega)).trans (to_line [] _ (by omega))
  have T2 : To (flat pb ++ []) start [] (partsP start pb) := to_parts pb [] start hb (by omega)
  have T3 : To (flat pa ++ ([10] ++ (flat pb ++ []))) start [] (partsP (endLine (partsP start pa)) pb) :=
    ((to_parts pa _ start ha (by omega)).trans (to_line _ _ (by omega))).trans (to_parts pb [] _ hb (by omega))
  have hd : endLine (partsP start pa) = downP (endLine (partsP start pa)).out (partsP start pa).line start := by
    unfold downP start
    simp [endLine]
    omega
  have hla := line_le pa start
  have hlb := line_le pb start
  have hob := outs_le pb start (fun _ h => by simp [start] at h)
  refine ⟨(endLine (partsP start pa)).out, finP (partsP start pb), (partsP start pa).line, by omega, ?_, by simp [finP], by omega, ?_, ?_, ?_, ?_⟩
  · unfold finP
    split <;> simp <;> omega
  · intro t ht
    unfold finP at ht
    rcases List.mem_append.1 ht with h | h
    · split at h
      · rcases List.mem_append.1 h with h | h
        · have := hob t h; omega
        · rw [List.mem_singleton] at h; subst h; show (partsP start pb).line ≤ 61; omega
      · have := hob t h; omega
    · rw [List.mem_singleton] at h; subst h; show (partsP start pb).line ≤ 61; omega
  · unfold LexAll
    rw [if_neg (by simp; omega)]
    have := T1 _ (lex_fin _ (by omega))
    rw [finP, he] at this
    exact this
  · unfold LexAll
    rw [if_neg (by omega)]
    have := T2 _ (lex_fin _ (by omega))
    rw [List.append_nil] at this
    exact this
  · unfold LexAll
    rw [if_neg (by simp; omega)]
    rw [hd, partsP_down he, List.append_nil] at T3
    have := T3 _ (lex_fin _ (by simp [downP]; omega))
    rw [finP_down he] at this
    rw [List.append_assoc]
    exact this

def Parts (ps : List (List UInt8 × Option (Nat × List UInt8 × Nat))) : Prop := ∀ p ∈ ps, IsPart p.1 p.2
theorem hand_of_P : handL = handP.map (·.1) := by rfl
theorem Hand.part {w : World} (h : Hand w) (j : Nat) (hj : j < 44) : ∃ p : List UInt8 × Option (Nat × List UInt8 × Nat), IsPart p.1 p.2 ∧ p.1.length ≤ 9 ∧ w.cell? ⟨1, j, none⟩ = some (.string (bs p.1)) := by
  have hjp : j < handP.length := hj
  have hx : handL[j]? = some (handP[j]'hjp).1 := by rw [hand_of_P, List.getElem?_map, List.getElem?_eq_getElem hjp]; rfl
  refine ⟨handP[j]'hjp, hand_parts _ (List.getElem_mem _), handL_le _ (List.mem_of_getElem? hx), ?_⟩
  have := h.words j (.string (bs (handP[j]'hjp).1)) (by rw [handV, List.getElem?_map, hx]; rfl)
  rwa [Nat.zero_add] at this

set_option maxRecDepth 20000 in
set_option maxHeartbeats 2000000 in
theorem words_parts {w : World} {A : Option Addr} {c : Nat} {xs : List Int} (h : IntsW w A c xs) (hd : Hand w) (h60 : xs.length ≤ 60) :
    Calls Tryd.prog 17 #[.slice A xs.length c] w fun e w' => (∃ ps : List (List UInt8 × Option (Nat × List UInt8 × Nat)), ps.length ≤ 60 ∧ Parts ps ∧ (flat ps).length ≤ 2000 ∧ e = .returned (.string (bs (flat ps)))) ∧ w = w' := by
  have HX := Lib.hid h
  have HD := Lib.hid hd
  have hle := h.le
  have hbig := h.big
  clear h hd
  obtain ⟨n, hn⟩ : ∃ n, n = xs.length := ⟨_, rfl⟩
  rw [← hn] at hle h60 ⊢
  have Hn := Lib.hid hn
  clear hn
  go_enter Tryd.func17, Tryd.ntmps17
  go_wp2_with fail
  go_loopw [3, 4] (fun s i wr => ∃ (k : Nat) (ps : List (List UInt8 × Option (Nat × List UInt8 × Nat))), k ≤ n ∧ i = .int .i64 k ∧ s = .string (bs (flat ps)) ∧ Hid (w = wr ∧ (flat ps).length ≤ 10 * k ∧ ps.length = k ∧ Parts ps)) (fun _ i _ => n - (intOf i).toNat)
  case atStart => exact ⟨0, [], Nat.zero_le _, rfl, rfl, Lib.hid ⟨rfl, Nat.le_refl _, rfl, fun _ h => by simp at h⟩⟩
  case round =>
    obtain ⟨k, ps, hk, rfl, rfl, hm⟩ := hrel
    by_cases h1 : k < n
    · obtain ⟨y, hy⟩ : ∃ y, xs[k]? = some y := ⟨_, List.getElem?_eq_getElem (by rw [← Hn.out]; exact h1)⟩
      obtain ⟨a, rfl, cx⟩ := HX.out.at_ k y hy
      clear hy
      obtain ⟨j, hj, hp, _⟩ := pick_nat y 44 (by decide) (by decide)
      obtain ⟨p, hip, hx9, cw⟩ := HD.out.part j hj
      obtain ⟨rfl, hl, hpl, hps⟩ := hm.out
      have PK := Lib.hid hp
      have hlt : (j : Int) < 44 := by omega
      have h2 : (k : Int) < 200 := by omega
      have h1i : (k : Int) < (n : Int) := by omega
      have hfl : flat (ps ++ [p]) = flat ps ++ p.1 ++ [32] := by simp [flat]
      obtain ⟨l, hlf⟩ : ∃ l, l = flat ps := ⟨_, rfl⟩
      rw [← hlf] at hl hfl ⊢
      obtain ⟨x, hxp⟩ : ∃ x, x = p.1 := ⟨_, rfl⟩
      rw [← hxp] at hfl hx9 cw
      have sl := bs_size l
      have sx := bs_size x
      have s1 : (bs l).size + (bs x).size ≤ 9223372036854775807 := by omega
      have eq1 := bs_append l x
      have eq2 := bs_append (l ++ x) [32]
      have s2 : (bs (l ++ x)).size + 1 ≤ 9223372036854775807 := by rw [bs_size, List.length_append]; omega
      have NX := Lib.hid (show (flat (ps ++ [p])).length ≤ 10 * (k + 1) ∧ (ps ++ [p]).length = k + 1 ∧ Parts (ps ++ [p]) from
        ⟨by rw [hfl, List.length_append, List.length_append]; simp; omega, by rw [List.length_append, hpl]; rfl, fun q hq => by
          rcases List.mem_append.1 hq with h | h
          · exact hps q h
          · rw [List.mem_singleton] at h; subst h; exact hip⟩)
      have HF := Lib.hid hfl
      clear hp hl hx9 hip hps hpl hlf hxp hfl
      go_wp2_with fail
      refine (PK.out _).mono ?_
      rintro e w' ⟨rfl, rfl⟩
      go_wp2_with fail
      exact ⟨⟨k + 1, ps ++ [p], by omega, by simp, by rw [HF.out]; exact congrArg Value.string eq2, Lib.hid ⟨trivial, NX.out⟩⟩, by simp [intOf]; omega⟩
    · have h1' : ¬ ((k : Int) < (n : Int)) := by omega
      go_wp2_with fail
      go_ret
      exact ⟨⟨ps, by have := hm.out.2.2.1; omega, hm.out.2.2.2, by have := hm.out.2.1; omega, rfl⟩, hm.out.1⟩

/-- The first sixty of them. -/
theorem words_front {w : World} {A : Option Addr} {c : Nat} {xs : List Int} (hx : IntsW w A c xs) (hd : Hand w) :
    ∃ k : Nat, (∀ w, (Instr.slice 31 (.slice A xs.length c) none (some (.int .i64 k)) none).run Tryd.prog w = .ok (.slice A k c) w) ∧ min (xs.length : Int) 60 = (k : Int) ∧
      Calls Tryd.prog 17 #[.slice A k c] w fun e w' => (∃ ps : List (List UInt8 × Option (Nat × List UInt8 × Nat)), ps.length ≤ 60 ∧ Parts ps ∧ (flat ps).length ≤ 2000 ∧ e = .returned (.string (bs (flat ps)))) ∧ w = w' := by
  obtain ⟨k, hk⟩ : ∃ k, k = min xs.length 60 := ⟨_, rfl⟩
  have hkl : (xs.take k).length = k := by rw [List.length_take]; omega
  have := words_parts (hx.front k) hd (by omega)
  rw [hkl] at this
  have h1 := hx.le
  have h2 := hx.big
  have h3 : (k : Int) ≤ (c : Int) := by omega
  have h4 : (0 : Int) ≤ (k : Int) := by omega
  refine ⟨k, ?_, by omega, this⟩
  clear this hkl hk hx hd h1
  intro w
  cases A with
  | none => go_simp
  | some a => go_simp

theorem all_okn {w : World} {T : List UInt8} {outs : List Tok} {n : Nat} (h : LexAll T (.ok outs)) (hn : outs.length = n) (L : Laid w) (hw : 3 ≤ w.heap.size) :
    Calls Tryd.prog 12 #[.string (bs T)] w fun e w' => Up w w' ∧ ∃ A c, e = .returned (.tuple #[.slice A n c, tokA 0 [] 0 0 0, .int .i64 0]) ∧ SlP w' (fun b => w.heap.size + 1 ≤ b) 5 TokC A c outs := by
  subst hn
  exact all_ok h L hw

theorem tokU : Tryd.prog.underlying 24 = some (.struct (Tryd.prog.fieldsOf 24)) := by kernel_rfl
theorem tokH : Tryd.prog.stoodInHeld 24 = false := by kernel_rfl
theorem tokG : Tryd.prog.eqGuardType Tryd.prog.depth 24 = false := by kernel_rfl
set_option maxHeartbeats 1000000 in
theorem run_neq_tok (k n l c : Int) (a : ByteArray) (w : World) :
    (binOp .neq 24 (.agg #[.int .i64 k, .string a, .int .i64 n, .int .i64 l, .int .i64 c]) (.agg #[.int .i64 k, .string a, .int .i64 n, .int .i64 l, .int .i64 c])).run Tryd.prog w = .ok (.bool false) w := by
  have u3 := Tryd.underlying3
  have a3 := Tryd.isAgg3
  have z3 := Tryd.sizeOf3
  have u2 := Tryd.underlying2
  have a2 := Tryd.isAgg2
  have z2 := Tryd.sizeOf2
  have u4 := Tryd.underlying9
  have a4 := Tryd.isAgg9
  have z4 := Tryd.sizeOf9
  rw [run_neq_struct, show (10000 : Nat) = 9999 + 1 from rfl, run_equalIn_agg w 9999 _ _ _ tokU tokH]
  simp only [Program.fieldsOf, Tryd.underlying24]
  go_simp
set_option maxHeartbeats 1000000 in
theorem run_eql_tok (k n l c : Int) (a : ByteArray) (w : World) :
    (binOp .eql 24 (.agg #[.int .i64 k, .string a, .int .i64 n, .int .i64 l, .int .i64 c]) (.agg #[.int .i64 k, .string a, .int .i64 n, .int .i64 l, .int .i64 c])).run Tryd.prog w = .ok (.bool true) w := by
  have u3 := Tryd.underlying3
  have a3 := Tryd.isAgg3
  have z3 := Tryd.sizeOf3
  have u2 := Tryd.underlying2
  have a2 := Tryd.isAgg2
  have z2 := Tryd.sizeOf2
  have u4 := Tryd.underlying9
  have a4 := Tryd.isAgg9
  have z4 := Tryd.sizeOf9
  rw [run_eql_struct, show (10000 : Nat) = 9999 + 1 from rfl, run_equalIn_agg w 9999 _ _ _ tokU tokH]
  simp only [Program.fieldsOf, Tryd.underlying24]
  go_simp

/-- One token of a row, in its cells. -/
theorem tok_at {w : World} {G : Nat → Prop} {A : Option Addr} {c : Nat} {xs : List Tok} (h : SlP w G 5 TokC A c xs) {k : Nat} (hk : k < xs.length) :
    ∃ b o, A = some ⟨b, o, none⟩ ∧ w.cell? ⟨b, o + k * 5, none⟩ = some (.int .i64 xs[k].kind) ∧ w.cell? ⟨b, o + k * 5 + 1, none⟩ = some (.string (bs xs[k].text)) ∧ w.cell? ⟨b, o + k * 5 + 2, none⟩ = some (.int .i64 xs[k].n) ∧
      w.cell? ⟨b, o + k * 5 + 3, none⟩ = some (.int .i64 xs[k].line) ∧ w.cell? ⟨b, o + k * 5 + 4, none⟩ = some (.int .i64 xs[k].col) := by
  obtain ⟨b, o, cs, hA, _, _, hcs, _, hx⟩ := h.elem hk
  subst hcs
  exact ⟨b, o, hA, by have := hx 0 _ rfl; rwa [Nat.add_zero] at this, hx 1 _ rfl, hx 2 _ rfl, hx 3 _ rfl, hx 4 _ rfl⟩
theorem idx_tok (b o n c k : Nat) (hk : k < n) (w : World) : (Instr.indexAt 22 (.slice (some ⟨b, o, none⟩) n c) (.int .i64 k)).run Tryd.prog w = .ok (.pointer (some ⟨b, o + k * 5, none⟩)) w := by
  rw [run_indexAt_slice (h := by kernel_rfl), if_pos ⟨Int.natCast_nonneg k, Int.ofNat_lt.2 hk⟩, show (sizeOf (Tryd.prog.elem 22)).run Tryd.prog w = .ok 5 w from by kernel_rfl]
  simp [Result.andThen, Addr.add]

end Go.Proofs.YtpobkjnlcengbaaDoor
