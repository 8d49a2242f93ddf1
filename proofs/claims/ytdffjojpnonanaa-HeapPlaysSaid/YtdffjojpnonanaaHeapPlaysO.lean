/-
  HeapPlays: the calls that came in, out of their reading.
-/
import Derived.Test.YtdffjojpnonanaaHeapPlaysW
import Derived.ProofKit
import Derived.Deep.Slices
namespace Go.Proofs.Ytdffjojpnonanaa
open Go.RowKit Go.ChangeShapes Go.WideShapes Go.ChangeAt

section
variable {H : Type} {enc : TypeId × Value → H} {w : World} {base : Nat} {spare : Nat → Bool} {held : Bool}

theorem step_of {fuel : Nat} {cs : List Value} {x : DataW H × List MemPlace} (h : DataW.trod enc Try.prog w base spare held fuel 42 cs = some x) :
    ∃ x : StepV, cs = [.int .i64 x.what, .int .i64 x.t, .int .i64 x.n, .int .u64 x.ref, .int .u64 x.v, .string x.s, .bool x.wild] ∧ (0 ≤ x.ref ∧ x.ref ≤ 18446744073709551615) ∧ (0 ≤ x.v ∧ x.v ≤ 18446744073709551615) ∧ x.s.size ≤ 9223372036854775807 := by
  obtain ⟨xs, n, rfl, rfl, hlen, hxl, hf⟩ := DataW.trod_struct Try.underlying42 h
  have hc7 : Try.prog.cellsOf 42 = 7 := by kernel_rfl
  have hi : Try.prog.cellsOf 3 = 1 := by kernel_rfl
  have hu : Try.prog.cellsOf 27 = 1 := by kernel_rfl
  have hs : Try.prog.cellsOf 9 = 1 := by kernel_rfl
  have hb : Try.prog.cellsOf 4 = 1 := by kernel_rfl
  rw [hc7] at hlen
  match cs, hlen with
  | [c0, c1, c2, c3, c4, c5, c6], _ =>
    have g : ∀ i, i < 7 → ∃ y, xs[i]? = some y := fun i hi => ⟨_, List.getElem?_eq_getElem (by rw [hxl]; exact hi)⟩
    obtain ⟨y0, k0⟩ := g 0 (by decide)
    obtain ⟨y1, k1⟩ := g 1 (by decide)
    obtain ⟨y2, k2⟩ := g 2 (by decide)
    obtain ⟨y3, k3⟩ := g 3 (by decide)
    obtain ⟨y4, k4⟩ := g 4 (by decide)
    obtain ⟨y5, k5⟩ := g 5 (by decide)
    obtain ⟨y6, k6⟩ := g 6 (by decide)
    have f0 : DataW.trod enc Try.prog w base spare held n 3 (([c0, c1, c2, c3, c4, c5, c6].drop 0).take (Try.prog.cellsOf 3)) = xs[0]? := hf 0 _ rfl
    have f1 : DataW.trod enc Try.prog w base spare held n 3 (([c0, c1, c2, c3, c4, c5, c6].drop 1).take (Try.prog.cellsOf 3)) = xs[1]? := hf 1 _ rfl
    have f2 : DataW.trod enc Try.prog w base spare held n 3 (([c0, c1, c2, c3, c4, c5, c6].drop 2).take (Try.prog.cellsOf 3)) = xs[2]? := hf 2 _ rfl
    have f3 : DataW.trod enc Try.prog w base spare held n 27 (([c0, c1, c2, c3, c4, c5, c6].drop 3).take (Try.prog.cellsOf 27)) = xs[3]? := hf 3 _ rfl
    have f4 : DataW.trod enc Try.prog w base spare held n 27 (([c0, c1, c2, c3, c4, c5, c6].drop 4).take (Try.prog.cellsOf 27)) = xs[4]? := hf 4 _ rfl
    have f5 : DataW.trod enc Try.prog w base spare held n 9 (([c0, c1, c2, c3, c4, c5, c6].drop 5).take (Try.prog.cellsOf 9)) = xs[5]? := hf 5 _ rfl
    have f6 : DataW.trod enc Try.prog w base spare held n 4 (([c0, c1, c2, c3, c4, c5, c6].drop 6).take (Try.prog.cellsOf 4)) = xs[6]? := hf 6 _ rfl
    simp only [k0, hi, List.drop_zero, List.take_succ_cons, List.take_zero] at f0
    simp only [k1, hi, List.drop_succ_cons, List.drop_zero, List.take_succ_cons, List.take_zero] at f1
    simp only [k2, hi, List.drop_succ_cons, List.drop_zero, List.take_succ_cons, List.take_zero] at f2
    simp only [k3, hu, List.drop_succ_cons, List.drop_zero, List.take_succ_cons, List.take_zero] at f3
    simp only [k4, hu, List.drop_succ_cons, List.drop_zero, List.take_succ_cons, List.take_zero] at f4
    simp only [k5, hs, List.drop_succ_cons, List.drop_zero, List.take_succ_cons, List.take_zero] at f5
    simp only [k6, hb, List.drop_succ_cons, List.drop_zero, List.take_succ_cons, List.take_zero] at f6
    obtain ⟨a0, e0, _, _⟩ := DataW.trod_int Try.underlying3 f0
    obtain ⟨a1, e1, _, _⟩ := DataW.trod_int Try.underlying3 f1
    obtain ⟨a2, e2, _, _⟩ := DataW.trod_int Try.underlying3 f2
    obtain ⟨a3, e3, _, w3⟩ := DataW.trod_int Try.underlying27 f3
    obtain ⟨a4, e4, _, w4⟩ := DataW.trod_int Try.underlying27 f4
    obtain ⟨a5, e5, _, w5⟩ := DataW.trod_string Try.underlying9 f5
    obtain ⟨a6, e6, _⟩ := DataW.trod_bool Try.underlying4 f6
    simp only [List.cons.injEq, and_true] at e0 e1 e2 e3 e4 e5 e6
    subst e0 e1 e2 e3 e4 e5 e6
    unfold maxLen at w5
    exact ⟨⟨a0, a1, a2, a3, a4, a5, a6⟩, rfl, u64_bd w3, u64_bd w4, by simp only; omega⟩

theorem steps_of {fuel : Nat} {a : Option Addr} {len cap : Nat} {x : DataW H × List MemPlace} (h : DataW.trod enc Try.prog w base (fun _ => true) held fuel 37 [.slice a len cap] = some x) : IsSteps w a len := by
  rcases Deep.open_slice Try.underlying37 h with ⟨e, _⟩ | ⟨ad, l, c, m, n, D, Pl, e, hb, hl, hm, hmm, rfl, hx⟩
  · simp only [List.cons.injEq, Value.slice.injEq, and_true] at e
    obtain ⟨rfl, rfl, rfl⟩ := e
    exact ⟨by decide, fun hh => absurd hh (Nat.lt_irrefl _)⟩
  · simp only [List.cons.injEq, Value.slice.injEq, and_true] at e
    obtain ⟨rfl, rfl, rfl⟩ := e
    have hc7 : Try.prog.cellsOf 42 = 7 := by kernel_rfl
    rw [if_pos rfl] at hmm
    subst hmm
    rw [hc7] at hx
    refine ⟨by unfold maxLen at hm; omega, fun h0 => ?_⟩
    obtain ⟨b, o, spot⟩ := ad
    have hcells : ∀ i, i < len → ∃ xv : StepV, w.cells? base ((⟨b, o, spot⟩ : Addr).add (i * 7)) 7 = some [.int .i64 xv.what, .int .i64 xv.t, .int .i64 xv.n, .int .u64 xv.ref, .int .u64 xv.v, .string xv.s, .bool xv.wild] ∧ (0 ≤ xv.ref ∧ xv.ref ≤ 18446744073709551615) ∧ (0 ≤ xv.v ∧ xv.v ≤ 18446744073709551615) ∧ xv.s.size ≤ 9223372036854775807 := by
      intro i hi
      obtain ⟨cs', h1, h2⟩ := hx i (by omega)
      obtain ⟨xv, rfl, h3⟩ := step_of h2
      exact ⟨xv, h1, h3⟩
    have hspot : spot = none := by
      obtain ⟨xv, h1, _⟩ := hcells 0 h0
      have := (World.cells?_some h1).2.2 0 (by decide)
      have h2 : w.cell? (((⟨b, o, spot⟩ : Addr).add (0 * 7)).add 0) = some (.int .i64 xv.what) := this
      simpa [Addr.add] using World.cell?_spot h2
    subst hspot
    have hcell : ∀ i, i < len → ∃ xv : StepV, StepAt w b (o + i * 7) xv := by
      intro i hi
      obtain ⟨xv, h1, h3, h4, h5⟩ := hcells i hi
      have hg := (World.cells?_some h1).2.2
      have ha : (⟨b, o, none⟩ : Addr).add (i * 7) = ⟨b, o + i * 7, none⟩ := Go.WideShapes.add_plain _ _ _
      rw [ha] at hg
      refine ⟨xv, ?_, ?_, ?_, ?_, ?_, ?_, ?_, h3, h4, h5⟩
      · have := hg 0 (by decide); rw [Go.WideShapes.add_plain] at this; exact this
      · have := hg 1 (by decide); rw [Go.WideShapes.add_plain] at this; exact this
      · have := hg 2 (by decide); rw [Go.WideShapes.add_plain] at this; exact this
      · have := hg 3 (by decide); rw [Go.WideShapes.add_plain] at this; exact this
      · have := hg 4 (by decide); rw [Go.WideShapes.add_plain] at this; exact this
      · have := hg 5 (by decide); rw [Go.WideShapes.add_plain] at this; exact this
      · have := hg 6 (by decide); rw [Go.WideShapes.add_plain] at this; exact this
    obtain ⟨xv, hx0⟩ := hcell 0 h0
    exact ⟨b, o, rfl, World.block_lt_of_cell? w _ hx0.e0, hcell⟩
end
end Go.Proofs.Ytdffjojpnonanaa
