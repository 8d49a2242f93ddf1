/-
  What the laws' walks over a World share.
-/
import Derived.Test.YtjeplkbdgphfoaaDoorWdNM
import Derived.Test.YtjeplkbdgphfoaaDoorWdK
import Derived.Test.YtjeplkbdgphfoaaDoorHeapA
namespace Go.Proofs.YtjeplkbdgphfoaaDoor
open Go.RowKit
set_option maxRecDepth 100000

theorem below_mono {B B' : Nat} {w w' : World} (h : Below B w w') (hB : B' ≤ B) : Below B' w w' := ⟨h.os, h.tape, h.output, h.size, fun k hk => h.block k (by omega)⟩
theorem below_up {B : Nat} {w w' : World} (h : Up w w') (hB : B ≤ w.heap.size) : Below B w w' := h.below hB (fun _ _ h => h)
theorem Does.below {B : Nat} {w w' : World} {s s' : WSt} (h : Wd B w s) (d : Does B w s s' w') : Below B w w' := by
  have hq := h.lt s.q (.inl (.inl rfl))
  exact d.2.fr.below (by omega) (fun k hk hm => by have := (h.lt k (.inl hm)).1; omega)

/-- A number in its cell. -/
def I64C (x : Int) (cs : List Value) : Prop := cs = [.int .i64 x] ∧ i64b x

/-- A World at work, behind a law's beginning. -/
structure At (W wr : World) (N : Nat) (s : WSt) : Prop where
  wd : Wd N wr s
  lk0 : Lk W
  bel : Below W.heap.size W wr
  le : W.heap.size ≤ N

theorem At.lk {W wr : World} {N : Nat} {s : WSt} (h : At W wr N s) : Lk wr := h.lk0.below h.bel
theorem At.does {W wr w' : World} {N : Nat} {s s' : WSt} (h : At W wr N s) (d : Does N wr s s' w') : At W w' N s' := by
  exact ⟨d.1, h.lk0, h.bel.trans (below_mono (d.below h.wd) h.le), h.le⟩
theorem At.up {W wr w' : World} {N : Nat} {s : WSt} (h : At W wr N s) (u : Up wr w') : At W w' N s := h.does (.up h.wd u)

theorem print_at {W wr : World} {N : Nat} {s : WSt} (h : At W wr N s) (kind v : Int) (hv : u64b v) :
    Calls Tryd.prog 11 #[.pointer (some ⟨s.q, 0, none⟩), .int .i64 kind, .int .u64 v] wr fun e w' => e = .returned (.tuple #[]) ∧ ∃ vt, At W w' N { s with vt := vt, lines := printed s kind v } :=
  (print_any h.wd h.lk.tab kind v hv).mono fun _ _ ⟨he, vt, d⟩ => ⟨he, vt, h.does d⟩

/-- A World of the law's program without texts, from nowhere. -/
def Fresh (q p g c : Nat) (room : Int) (vl vs vi : Value) : WSt := St0 q p g c room [0] vl vs vi [] []

theorem nil_strs (w : World) : SlP w (fun _ => True) 1 StrC none 0 [] := ⟨Nat.le_refl _, by omega, fun h => absurd rfl h⟩
theorem nil_ins (w : World) : w.ownsRow 0 2 1 (.slice none 0 0) ([] : List Int).length (([] : List Int).map (Value.int .i64)) := World.ownsRow_nil _ _ _ _

/-- New of the law's program with no texts, no inputs. -/
theorem new_nil {Bt gt ct : Nat} {room : Int} {W w : World} (hlk : Lk W) (hb : Below W.heap.size W w) (hty : OwnSl w Bt 71 5 TyC (.slice (some ⟨gt, 0, none⟩) 7 ct) fieldsOf) (h0 : 1 ≤ room) (h1 : room ≤ 65536) :
    Calls Tryd.prog 6 #[.agg #[.slice (some ⟨gt, 0, none⟩) 7 ct, .slice none 0 0, .int .i64 0, .slice none 0 0, .slice none 0 0], .int .i64 room, .slice none 0 0] w fun e w' =>
      ∃ q p g c vl vs vi, e = .returned (.tuple #[.pointer (some ⟨q, 0, none⟩), .bool true]) ∧ At W w' w.heap.size (Fresh q p g c room vl vs vi) :=
  (wnew_any (n := 0) (ins := []) hty (nil_strs w) rfl (by omega) (nil_ins w) (by simp) (by simp) h0 h1).mono fun e w' hd => by
    rcases hd with ⟨ws', R, q, p, g, c, vl, vs, vi, ha, he, hw, hu⟩ | ⟨ha, _⟩
    · simp only [addT, Option.some.injEq, Prod.mk.injEq] at ha
      obtain ⟨rfl, rfl⟩ := ha
      exact ⟨q, p, g, c, vl, vs, vi, he, hw, hlk, hb.trans (below_up hu hb.size), hb.size⟩
    · simp [addT] at ha
end Go.Proofs.YtjeplkbdgphfoaaDoor
