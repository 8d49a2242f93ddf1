/-
  The lines of code: what package code's Show returns.
-/
import Derived.Test.YtomononppbjnnaaDoorCdS
import Derived.Test.YtomononppbjnnaaDoorBld
namespace Go.Proofs.YtomononppbjnnaaDoor
open Go.RowKit

structure Ins where
  op : Int
  a : Int
  b : Int
/-- Instructions in memory. -/
structure CodeAt (w : World) (A : Option Addr) (l : List Ins) : Prop where
  at_ : ∀ (k : Nat) (x : Ins), l[k]? = some x → i64 x.op ∧ i64 x.a ∧ i64 x.b ∧ ∃ g o, A = some ⟨g, o, none⟩ ∧ g < w.heap.size ∧ w.cell? ⟨g, o + k * 3, none⟩ = some (.int .i64 x.op) ∧ w.cell? ⟨g, o + k * 3 + 1, none⟩ = some (.int .i64 x.a) ∧ w.cell? ⟨g, o + k * 3 + 2, none⟩ = some (.int .i64 x.b)
theorem CodeAt.kept {S : Nat → Prop} {w w' : World} {A : Option Addr} {l : List Ins} (h : CodeAt w A l) (k : Fr S w w') (hS : ∀ i, i < w.heap.size → ¬ S i) : CodeAt w' A l :=
  ⟨fun j x hj => by
    obtain ⟨h1, h2, h3, g, o, rfl, h4, q0, q1, q2⟩ := h.at_ j x hj
    exact ⟨h1, h2, h3, g, o, rfl, Nat.lt_of_lt_of_le h4 k.size, by rw [k.cell h4 (hS _ h4)]; exact q0, by rw [k.cell h4 (hS _ h4)]; exact q1, by rw [k.cell h4 (hS _ h4)]; exact q2⟩⟩
def showUpto (l : List Ins) : Nat → List UInt8
  | 0 => []
  | k + 1 => showUpto l k ++ (match l[k]? with
    | some x => lineOf x.op x.a x.b k
    | none => [])
theorem showUpto_le {l : List Ins} (h : ∀ (k : Nat) (x : Ins), l[k]? = some x → i64 x.op ∧ i64 x.a ∧ i64 x.b) : ∀ k, k ≤ 10000 → (showUpto l k).length ≤ k * 86
  | 0, _ => Nat.le_refl _
  | k + 1, hk => by
    have := showUpto_le h k (by omega)
    simp only [showUpto, List.length_append]
    split
    · rename_i x hx
      obtain ⟨h1, h2, h3⟩ := h k x hx
      have := line_le h1 h2 h3 (pc := k) ⟨by omega, by omega⟩
      omega
    · simp; omega
theorem bcells_append (l m : List UInt8) : Lib.byteCells l ++ Lib.strCells (bsv m) = Lib.byteCells (l ++ m) := by
  unfold Lib.byteCells Lib.strCells
  simp [bsv]
theorem BF.kept {B b : Nat} {l : List Value} {w w' : World} (h : BF B b l w) (k : Up w w') : BF B b l w' := by
  have key : ∀ p, Lib.BuilderAtF 42 5 B b p l w → Lib.BuilderAtF 42 5 B b p l w' := by
    rintro p ⟨hB, v, hb, hown, hne⟩
    refine ⟨hB, v, (k.block b (heap_lt hb) (fun h => h)).trans hb, ?_, hne⟩
    exact hown.kept (row := none) ⟨k.os, k.tape, k.output, k.size, fun i hi _ => k.block i hi (fun h => h)⟩ (by cases h : v.ownBlock <;> simp)
  rcases h with h | h
  · exact .inl (key _ h)
  · exact .inr (key _ h)
theorem BF.fresh {w : World} : BF w.heap.size w.heap.size [] (w.alloc (.cells #[.pointer none, .slice none 0 0] 42)) :=
  .inl ⟨Nat.le_refl _, _, heap_alloc_new _ _, World.ownsRowF_nil _ _ _ _, by simp [Value.ownBlock]⟩

theorem Tab.kept' {S : Nat → Prop} {w w' : World} (h : Tab w) (k : Fr S w w') (hS : ∀ i, i < w.heap.size → ¬ S i) : Tab w' :=
  ⟨Lib.tabBelow_of_tabIs h.h w' (k.below (Nat.le_refl _) hS)⟩
theorem showUpto_succ {l : List Ins} {k : Nat} {x : Ins} (h : l[k]? = some x) : showUpto l (k + 1) = showUpto l k ++ lineOf x.op x.a x.b k := by
  simp only [showUpto, h]
set_option maxRecDepth 20000 in
set_option maxHeartbeats 4000000 in
theorem show_any {w : World} {A : Option Addr} {l : List Ins} {c : Nat} {u1 u2 u3 u4 : Value} (hc : CodeAt w A l) (hn : l.length ≤ 5000) (hcap : l.length ≤ c) (t : Tab w) :
    Calls Tryd.prog 7 #[.agg #[u1, u2, u3, u4, .slice A l.length c]] w fun e w' => e = .returned (.string (bsv (showUpto l l.length))) ∧ Up w w' := by
  have HC := Lib.hid hc
  have T := Lib.hid t
  clear hc t
  obtain ⟨n, hN⟩ : ∃ n, n = l.length := ⟨_, rfl⟩
  rw [← hN] at hn hcap
  simp only [← hN]
  have HN := Lib.hid hN
  clear hN
  go_enter Tryd.func7, Tryd.ntmps7
  go_wp2_with fail
  obtain ⟨W0, hW0⟩ : ∃ W, W = w.alloc (.cells #[u1, u2, u3, u4, .slice A n c] 28) := ⟨_, rfl⟩
  have hs0 : W0.heap.size = w.heap.size + 1 := by rw [hW0]; simp
  have F0 : Fr (fun i => w.heap.size ≤ i) w W0 := by rw [hW0]; exact (Fr.refl _ _).alloc _
  have B0 : BF W0.heap.size W0.heap.size (Lib.byteCells (showUpto l 0)) (W0.alloc (.cells #[.pointer none, .slice none 0 0] 42)) := BF.fresh
  rw [← hW0]
  have H0 := Lib.hid (And.intro hs0 F0)
  have HB0 := Lib.hid B0
  clear hW0 F0 B0
  rw [← hs0]
  clear hs0
  go_loopw [9] (fun i wr => ∃ k : Nat, k ≤ n ∧ i = .int .i64 k ∧ Hid (BF W0.heap.size W0.heap.size (Lib.byteCells (showUpto l k)) wr ∧ Below W0.heap.size W0 wr)) (fun i _ => n - natOf i)
  case atStart => exact ⟨0, Nat.zero_le _, rfl, Lib.hid ⟨HB0.out, (Below.refl _ _).alloc (Nat.le_refl _) _⟩⟩
  case round =>
    obtain ⟨wo, rfl⟩ : ∃ wo : World, wo = wr := ⟨_, rfl⟩
    obtain ⟨k, hk, rfl, hm⟩ := hrel
    have FW : Fr (fun i => w.heap.size ≤ i) w wo := H0.out.2.trans (Fr.ofBelow hm.out.2) (fun i hi h => by have := H0.out.1; omega)
    by_cases hlt : k < n
    · have k1 : (k : Int) < (n : Int) := by omega
      obtain ⟨⟨op, a, b⟩, hx⟩ : ∃ x, l[k]? = some x := ⟨_, List.getElem?_eq_getElem (by rw [← HN.out]; exact hlt)⟩
      obtain ⟨i1, i2, i3, g, o, rfl, hg, q0, q1, q2⟩ := (HC.out.kept FW (fun i hi h => by omega)).at_ k _ hx
      simp only at i1 i2 i3 q0 q1 q2
      have I := Lib.hid (And.intro i1 (And.intro i2 (And.intro i3 hx)))
      have TW := Lib.hid (T.out.kept' FW (fun i hi h => by omega))
      have hlen : (showUpto l k).length ≤ k * 86 := showUpto_le (fun j x hj => by obtain ⟨h1, h2, h3, _⟩ := HC.out.at_ j x hj; exact ⟨h1, h2, h3⟩) k (by omega)
      have HL := Lib.hid hlen
      clear i1 i2 i3 hx hlen
      go_wp2_with fail
      refine (line_any op a b k I.out.1 I.out.2.1 I.out.2.2.1 ⟨by omega, by omega⟩ _ (TW.out.kept ((Fr.refl _ _).alloc _))).mono ?_
      rintro e w1 ⟨rfl, v1⟩
      have V1 := Lib.hid v1
      clear v1
      go_wp2_with fail
      have hsz : W0.heap.size ≤ w1.heap.size := Nat.le_trans hm.out.2.size (Nat.le_trans (by simp) V1.out.size)
      have hll := line_le (op := op) (a := a) (b := b) (pc := k) I.out.1 I.out.2.1 I.out.2.2.1 ⟨by omega, by omega⟩
      refine (bwrite_any _ _ _ _ _ ((hm.out.1.kept ((Fr.refl _ _).alloc _)).kept V1.out) (by rw [Lib.byteCells_length, bsv_size]; have := HL.out; omega) hsz).mono ?_
      rintro e w2 ⟨rfl, b2, v2⟩
      rw [bcells_append, ← showUpto_succ (x := ⟨op, a, b⟩) I.out.2.2.2] at b2
      have B2 := Lib.hid (And.intro b2 (Below.trans (Below.trans (hm.out.2.alloc (Nat.le_trans hm.out.2.size (Nat.le_refl _)) _) (V1.out.below (B := W0.heap.size) (Nat.le_trans hm.out.2.size (by simp)) (fun _ _ h => h))) v2))
      clear b2 v2 hsz hll
      go_wp2_with fail
      refine ⟨⟨k + 1, by omega, by go_num, B2⟩, by simp [natOf]; omega⟩
    · have hk' : k = n := by omega
      subst hk'
      go_wp2_with fail
      refine (Tryd.Builder_String_any_f _ _ _ _ hm.out.1 hm.out.2.size).mono ?_
      rintro e w1 ⟨rfl, _, v1⟩
      have V1 := Lib.hid v1
      clear v1
      go_wp2_with fail
      go_ret
      refine ⟨rfl, ?_⟩
      have F2 : Fr (fun i => w.heap.size ≤ i) w w1 := FW.trans (Fr.ofBelow V1.out) (fun i hi h => by have := H0.out.1; omega)
      exact ⟨F2.os, F2.tape, F2.output, F2.size, fun i hi _ => F2.block i hi (by omega)⟩
end Go.Proofs.YtomononppbjnnaaDoor
