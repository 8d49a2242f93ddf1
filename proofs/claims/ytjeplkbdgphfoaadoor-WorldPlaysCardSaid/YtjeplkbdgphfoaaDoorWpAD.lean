/-
  Both Worlds, side by side.
  Both Worlds, made.
  Both Worlds, a call on each.
  WorldPlays: what the last parts of its walk need.
-/
import Derived.Test.YtjeplkbdgphfoaaDoorWrAM
namespace Go.Proofs.YtjeplkbdgphfoaaDoor
open Go.RowKit
set_option maxRecDepth 100000


structure Pl (W wr : World) (N : Nat) (s : WSt) (r : RSt) (vr : Value) (refs : List Int) : Prop where
  wd : Wd N wr s
  rd : RWd W.heap.size wr r
  row : wr.ownsRow W.heap.size 38 1 vr refs.length (refs.map (Value.int .u64))
  wref : ∀ x ∈ refs, u64b x
  same : s.ws = r.ws ∧ s.lits = r.lits ∧ s.ins = r.ins ∧ s.taken = r.taken ∧ s.lines = r.lines ∧ s.room = r.room ∧ s.sizes = sizesI
  few : s.lits.length ≤ 1000 ∧ s.ins.length ≤ 1000
  apart : ∀ b, s.Blk b → ¬ r.Blk b
  off : ∀ b, vr.ownBlock = some b → ¬ s.Blk b ∧ ¬ r.Blk b
  lk0 : Lk W
  bel : Below W.heap.size W wr
  le : W.heap.size ≤ N

section
variable {W wr w3 w4 : World} {N : Nat} {s s' : WSt} {r r' : RSt} {vr : Value} {refs : List Int}
theorem Pl.lk (h : Pl W wr N s r vr refs) : Lk wr := h.lk0.below h.bel
theorem Pl.rlt (h : Pl W wr N s r vr refs) : ∀ b, vr.ownBlock = some b → W.heap.size ≤ b ∧ b < wr.heap.size := h.row.lt

/-- The reference's World, behind a step of the other one. -/
theorem Pl.rd3 (h : Pl W wr N s r vr refs) (d : Does N wr s s' w3) : RWd W.heap.size w3 r := h.rd.kept d.2.fr (fun b hb hm => h.apart b (.inl hm) hb)

theorem Pl.two (h : Pl W wr N s r vr refs) (d : Does N wr s s' w3) (e : RDoes W.heap.size w3 r r' w4)
    (hs : s'.ws = r'.ws ∧ s'.lits = r'.lits ∧ s'.ins = r'.ins ∧ s'.taken = r'.taken ∧ s'.lines = r'.lines ∧ s'.room = r'.room ∧ s'.sizes = sizesI) (hf : s'.lits.length ≤ 1000 ∧ s'.ins.length ≤ 1000) : Pl W w4 N s' r' vr refs := by
  have hsl := h.wd.lt
  have hrl := h.rd.lt
  have z3 := d.2.fr.size
  have r3 := h.rd3 d
  have ap : ∀ b, s'.Blk b → ¬ r.Blk b := fun b hb hr => by
    rcases d.2.new b hb with e | e
    · exact h.apart b e hr
    · have := (hrl b hr).2; omega
  refine ⟨d.1.kept e.2.fr (fun b hb hm => ap b hb (.inl hm)), e.1, ?_, h.wref, hs, hf, ?_, ?_, h.lk0, ?_, h.le⟩
  · exact e.2.fr.owns (d.2.fr.owns h.row (fun b hb hm => (h.off b hb).1 (.inl hm))) (fun b hb hm => (h.off b hb).2 (.inl hm))
  · intro b hb hr
    rcases e.2.new b hr with k | k
    · exact ap b hb k
    · have := (d.1.lt b hb).2; omega
  · intro b hb
    have hlt := (h.rlt b hb).2
    refine ⟨fun hh => ?_, fun hh => ?_⟩
    · rcases d.2.new b hh with k | k
      · exact (h.off b hb).1 k
      · omega
    · rcases e.2.new b hh with k | k
      · exact (h.off b hb).2 k
      · omega
  · refine (h.bel.trans (below_mono (d.below h.wd) h.le)).trans (e.2.fr.below (by have := h.bel.size; omega) (fun k hk hm => ?_))
    have := (hrl k (.inl hm)).1
    omega

theorem Pl.up (h : Pl W wr N s r vr refs) (u : Up wr w3) : Pl W w3 N s r vr refs := h.two (.up h.wd (Fr.refl _ _)) (.up (h.rd) u) h.same h.few

/-- A reference more. -/
theorem Pl.push (h : Pl W wr N s r vr refs) {x : Int} {g' c' : Nat} (hx : u64b x) (ho : w4.ownsRow W.heap.size 38 1 (.slice (some ⟨g', 0, none⟩) (refs.length + 1) c') (refs.length + 1) (refs.map (Value.int .u64) ++ [.int .u64 x]))
    (hg : wr.grownBy w4 vr.ownBlock) (hb : vr.ownBlock = some g' ∨ wr.heap.size ≤ g') : Pl W w4 N s r (.slice (some ⟨g', 0, none⟩) (refs.length + 1) c') (refs ++ [x]) := by
  have f : Fr (fun b => vr.ownBlock = some b) wr w4 := (Fr.refl _ wr).grown hg (fun _ hb _ => hb)
  have hlen : (refs ++ [x]).length = refs.length + 1 := by simp
  refine ⟨h.wd.kept f (fun b hb hh => (h.off b hh).1 hb), h.rd.kept f (fun b hb hh => (h.off b hh).2 hb), ?_, ?_, h.same, h.few, h.apart, ?_, h.lk0, ?_, h.le⟩
  · rw [hlen, List.map_append]; exact ho
  · intro y hy
    rcases List.mem_append.1 hy with hy | hy
    · exact h.wref y hy
    · rw [List.mem_singleton.1 hy]; exact hx
  · intro b hb'
    simp [Value.ownBlock] at hb'
    subst hb'
    rcases hb with e | e
    · exact h.off _ e
    · exact ⟨fun hh => by have := (h.wd.lt _ hh).2; omega, fun hh => by have := (h.rd.lt _ hh).2; omega⟩
  · exact h.bel.trans (f.below h.bel.size (fun k hk hh => by have := (h.rlt k hh).1; omega))
end

/-- A step that came in. -/
structure PStep where
  what : Int
  a : Int
  b : Int
  v : Int
def PStepC (x : PStep) (cs : List Value) : Prop := cs = [.int .i64 x.what, .int .i64 x.a, .int .i64 x.b, .int .u64 x.v] ∧ i64b x.what ∧ i64b x.a ∧ i64b x.b ∧ u64b x.v

def cutT (x : ByteArray) : ByteArray := x.extract 0 (min x.size 30)
theorem cutT_size (x : ByteArray) : (cutT x).size ≤ 30 := by simp [cutT]; omega


/-- What both makers need. -/
structure Mk0 (W w : World) (gt ct : Nat) (A : Option Addr) (cp : Nat) (ss : List ByteArray) : Prop where
  ty : OwnSl w W.heap.size 71 5 TyC (.slice (some ⟨gt, 0, none⟩) 7 ct) fieldsOf
  tx : SlP w (fun _ => True) 1 StrC A cp ss
  up : Up W w
theorem Mk0.kept {W w w' : World} {gt ct : Nat} {A : Option Addr} {cp : Nat} {ss : List ByteArray} (h : Mk0 W w gt ct A cp ss) (u : Up w w') : Mk0 W w' gt ct A cp ss :=
  ⟨h.ty.kept u (fun _ _ h => h) (fun _ _ _ h => h), h.tx.kept u (fun _ _ h => h) (fun _ h => h) (fun _ _ _ h => h), up_trans h.up u⟩

section
variable {W w : World} {gt ct cp : Nat} {A : Option Addr} {ss : List ByteArray} {ins : List Int} {vi : Value} {room : Int}

theorem wnew_some (h : Mk0 W w gt ct A cp ss) (hn1 : ss.length ≤ 6) (hi : w.ownsRow W.heap.size 2 1 vi ins.length (ins.map (Value.int .i64))) (hil : ins.length ≤ 1000) (hib : ∀ x ∈ ins, i64b x) (h0 : 1 ≤ room) (h1 : room ≤ 65536) {o : List Int × List Int} (ha : addT room [0] ss = some o) :
    Calls Tryd.prog 6 #[.agg #[.slice (some ⟨gt, 0, none⟩) 7 ct, .slice none 0 0, .int .i64 0, .slice A ss.length cp, .slice none 0 0], .int .i64 room, vi] w fun e w' =>
      ∃ q p g c vl vs vi', e = .returned (.tuple #[.pointer (some ⟨q, 0, none⟩), .bool true]) ∧ Wd w.heap.size w' (St0 q p g c room o.1 vl vs vi' o.2 ins) ∧ Up w w' :=
  (wnew_any h.ty h.tx rfl (by omega) hi hil hib h0 h1).mono fun e w' hd => by
    rcases hd with ⟨ws', R, q, p, g, c, vl, vs, vi', h1, h2, h3, h4⟩ | ⟨h1, _⟩
    · rw [ha] at h1; cases h1; exact ⟨q, p, g, c, vl, vs, vi', h2, h3, h4⟩
    · rw [ha] at h1; cases h1
theorem wnew_none (h : Mk0 W w gt ct A cp ss) (hn1 : ss.length ≤ 6) (hi : w.ownsRow W.heap.size 2 1 vi ins.length (ins.map (Value.int .i64))) (hil : ins.length ≤ 1000) (hib : ∀ x ∈ ins, i64b x) (h0 : 1 ≤ room) (h1 : room ≤ 65536) (ha : addT room [0] ss = none) :
    Calls Tryd.prog 6 #[.agg #[.slice (some ⟨gt, 0, none⟩) 7 ct, .slice none 0 0, .int .i64 0, .slice A ss.length cp, .slice none 0 0], .int .i64 room, vi] w fun e w' => e = .returned (.tuple #[.pointer none, .bool false]) ∧ Up w w' :=
  (wnew_any h.ty h.tx rfl (by omega) hi hil hib h0 h1).mono fun e w' hd => by
    rcases hd with ⟨ws', R, q, p, g, c, vl, vs, vi', h1, _⟩ | ⟨_, h2, h3⟩
    · rw [ha] at h1; cases h1
    · exact ⟨h2, h3⟩
theorem rnew_some (h : Mk0 W w gt ct A cp ss) (hn1 : ss.length ≤ 6) (hi : w.ownsRow W.heap.size 2 1 vi ins.length (ins.map (Value.int .i64))) (hib : ∀ x ∈ ins, i64b x) (h0 : 1 ≤ room) (h1 : room ≤ 65536) {o : List Int × List Int} (ha : addT room [0] ss = some o) :
    Calls Tryd.prog 8 #[.agg #[.slice (some ⟨gt, 0, none⟩) 7 ct, .slice none 0 0, .int .i64 0, .slice A ss.length cp, .slice none 0 0], .int .i64 room, vi] w fun e w' =>
      ∃ s, e = .returned (.pointer (some ⟨s.q, 0, none⟩)) ∧ RWd W.heap.size w' s ∧ Up w w' ∧ (∀ b, s.Mut b → w.heap.size < b) ∧ (∀ b, s.vl.ownBlock = some b → w.heap.size < b) ∧ s.ws = o.1 ∧ s.lits = o.2 ∧ s.room = room ∧ s.tg = gt ∧ s.vi = vi ∧ s.ins = ins ∧ s.taken = 0 ∧ s.lines = [] :=
  (rnewworld_any h.up.size h.ty h.tx rfl (by omega) hi hib h0 h1).mono fun e w' hd => by
    rcases hd with ⟨s, h1, h2, h3, h4, h5, h6, h7, h8, h9, h10, h11, h12⟩ | ⟨h1, _⟩
    · rw [ha] at h3
      cases h3
      exact ⟨s, h1, h2, h4, h5, h6, rfl, rfl, h7, h8, h9, h10, h11, h12⟩
    · rw [ha] at h1; cases h1
theorem rnew_none (h : Mk0 W w gt ct A cp ss) (hn1 : ss.length ≤ 6) (hi : w.ownsRow W.heap.size 2 1 vi ins.length (ins.map (Value.int .i64))) (hib : ∀ x ∈ ins, i64b x) (h0 : 1 ≤ room) (h1 : room ≤ 65536) (ha : addT room [0] ss = none) :
    Calls Tryd.prog 8 #[.agg #[.slice (some ⟨gt, 0, none⟩) 7 ct, .slice none 0 0, .int .i64 0, .slice A ss.length cp, .slice none 0 0], .int .i64 room, vi] w fun e w' => e = .returned (.pointer none) ∧ Up w w' :=
  (rnewworld_any h.up.size h.ty h.tx rfl (by omega) hi hib h0 h1).mono fun e w' hd => by
    rcases hd with ⟨s, h1, h2, h3, _⟩ | ⟨_, h2, h3⟩
    · rw [ha] at h3; cases h3
    · exact ⟨h2, h3⟩
end

/-- The inputs, as the makers take them. -/
theorem inputs_at {W w : World} {A : Option Addr} {cap len : Nat} {xs : List Int} (hx : SlP W (fun _ => True) 1 I64C A cap xs) (hl : xs.length = len) (u : Up W w) :
    Calls Tryd.prog 7 #[.slice A len cap] w fun e w' => ∃ a c, e = .returned (.slice a (xs.take 40).length c) ∧ w'.ownsRow w.heap.size 2 1 (.slice a (xs.take 40).length c) (xs.take 40).length ((xs.take 40).map (Value.int .i64)) ∧ Up w w' :=
  (inputs_any (hx.kept (G' := fun _ => True) (C' := I64C) u (fun _ _ h => h) (fun _ h => h) (fun _ _ _ h => h)) hl).mono fun e w' ⟨v', he, ho, hu⟩ => by
    obtain ⟨a, c, rfl, _⟩ := row_parts ho
    exact ⟨a, c, he, ho, hu⟩
theorem inputs_bd {W : World} {A : Option Addr} {cap : Nat} {xs : List Int} (hx : SlP W (fun _ => True) 1 I64C A cap xs) : ∀ x ∈ xs.take 40, i64b x := fun x hx' => by
  obtain ⟨k, hk⟩ := List.mem_iff_getElem?.1 (List.mem_of_mem_take hx')
  have hkl := (List.getElem?_eq_some_iff.1 hk).1
  obtain ⟨b, o, cs, _, _, _, ⟨_, hb⟩, _⟩ := hx.elem (k := k) hkl
  rw [List.getElem?_eq_getElem hkl] at hk
  cases hk
  exact hb

theorem pl_init {W wB wE : World} {N : Nat} {s : WSt} {r : RSt} (hw : Wd N wB s) (u : Up wB wE) (hr : RWd W.heap.size wE r) (c1 : ∀ b, r.Mut b → wB.heap.size ≤ b) (c2 : ∀ b, r.vl.ownBlock = some b → wB.heap.size ≤ b) (c3 : r.tg < N)
    (c4 : ∀ b, r.vi.ownBlock = some b → wB.heap.size ≤ b) (same : s.ws = r.ws ∧ s.lits = r.lits ∧ s.ins = r.ins ∧ s.taken = r.taken ∧ s.lines = r.lines ∧ s.room = r.room ∧ s.sizes = sizesI) (few : s.lits.length ≤ 1000 ∧ s.ins.length ≤ 1000) (lk : Lk W) (hup : Up W wE) (hN : W.heap.size ≤ N) :
    Pl W (wE.alloc (.cells #[.int .u64 0, .int .u64 0] 38)) N s r (.slice (some ⟨wE.heap.size, 0, none⟩) 2 2) [0, 0] := by
  have a := (Fr.refl (fun _ => False) wE).alloc (.cells #[.int .u64 0, .int .u64 0] 38)
  have hwl := hw.lt
  have hrl := hr.lt
  have z := u.size
  refine ⟨hw.up (up_trans u a), hr.up a, ?_, ?_, same, few, ?_, ?_, lk, below_up (up_trans hup a) (Nat.le_refl _), hN⟩
  · exact row_base (World.ownsRow_lit wE #[.int .u64 0, .int .u64 0] 2 (Nat.le_refl _) (by decide) rfl) hup.size
  · intro x hx
    simp at hx
    subst hx
    exact ⟨by omega, by omega⟩
  · intro b hb hh
    have h1 := hwl b hb
    rcases hh with hm | e | e | e
    · have := c1 b hm; omega
    · have := c2 b e; omega
    · omega
    · have := c4 b e; omega
  · intro b hb
    simp [Value.ownBlock] at hb
    subst hb
    exact ⟨fun hh => by have := (hwl _ hh).2; omega, fun hh => by have := (hrl _ hh).2; omega⟩


/-- What is neither World's stays. -/
def Keeps (wr : World) (s : WSt) (r : RSt) (w' : World) (s' : WSt) (r' : RSt) : Prop := ∀ b, b < wr.heap.size → ¬ s.Blk b → ¬ r.Blk b → w'.heap[b]? = wr.heap[b]? ∧ ¬ s'.Blk b ∧ ¬ r'.Blk b
theorem two_keeps {N B : Nat} {wr w3 w4 : World} {s s' : WSt} {r r' : RSt} (d : Does N wr s s' w3) (e : RDoes B w3 r r' w4) : Keeps wr s r w4 s' r' := fun b hb h1 h2 => by
  have z := d.2.fr.size
  refine ⟨(e.2.fr.block b (by omega) (fun hm => h2 (.inl hm))).trans (d.2.fr.block b hb (fun hm => h1 (.inl hm))), fun hh => ?_, fun hh => ?_⟩
  · rcases d.2.new b hh with k | k
    · exact h1 k
    · omega
  · rcases e.2.new b hh with k | k
    · exact h2 k
    · omega

/-- Both Worlds behind a call on each. -/
def Both (W wr : World) (N : Nat) (s : WSt) (r : RSt) (vr : Value) (refs : List Int) (w' : World) : Prop := ∃ s' r', s'.q = s.q ∧ r'.q = r.q ∧ Pl W w' N s' r' vr refs ∧ Keeps wr s r w' s' r'

section
variable {W wr w3 : World} {N B : Nat} {st : PStep} {s s' : WSt} {r : RSt} {vr : Value} {refs : List Int}

theorem pl_print (h : Pl W wr N s r vr refs) (kind v : Int) (hv : u64b v) :
    Calls Tryd.prog 11 #[.pointer (some ⟨s.q, 0, none⟩), .int .i64 kind, .int .u64 v] wr fun e w' => e = .returned (.tuple #[]) ∧ ∃ vt, Does N wr s { s with vt := vt, lines := printed s kind v } w' :=
  print_any h.wd h.lk.tab kind v hv
theorem printed_same (h : Pl W wr N s r vr refs) (kind v : Int) : rprinted r kind v = printed s kind v := by
  obtain ⟨e1, _, _, _, e5, _⟩ := h.same
  unfold rprinted printed rlineText lineText
  rw [e1, e5]
  generalize (if kind = 1 then some (bsv (Lib.itoa (IntKind.i64.wrap v))) else if kind = 2 then some (boolT (v != 0)) else if kind = 3 then some (strAt r.ws v) else none) = o
  cases o <;> rfl
theorem pl_rprint (h : Pl W wr N s r vr refs) (kind v : Int) (hv : u64b v) {vt : Value} (d : Does N wr s { s with vt := vt, lines := printed s kind v } w3) :
    Calls Tryd.prog 12 #[.pointer (some ⟨r.q, 0, none⟩), .int .i64 kind, .int .u64 v] w3 fun e w' => e = .returned (.tuple #[]) ∧ Both W wr N s r vr refs w' :=
  (rprint_any (h.rd3 d) kind v hv).mono fun e w' ⟨he, vt', d'⟩ => by
    refine ⟨he, _, _, ?_, ?_, h.two d d' ?_ h.few, two_keeps d d'⟩
    · rfl
    · rfl
    · obtain ⟨e1, e2, e3, e4, e5, e6, e7⟩ := h.same
      exact ⟨e1, e2, e3, e4, (printed_same h kind v).symm, e6, e7⟩

theorem input_same (h : Pl W wr N s r vr refs) : rinputOf r = inputOf s := by
  obtain ⟨e1, e2, e3, e4, _⟩ := h.same
  unfold rinputOf inputOf
  rw [e3, e4]
theorem pl_input (h : Pl W wr N s r vr refs) :
    Calls Tryd.prog 13 #[.pointer (some ⟨s.q, 0, none⟩)] wr fun e w' => e = .returned (.int .u64 (inputOf s)) ∧ Does N wr s (nextSt s) w' := input_any h.wd
theorem pl_rinput (h : Pl W wr N s r vr refs) (d : Does N wr s (nextSt s) w3) :
    Calls Tryd.prog 14 #[.pointer (some ⟨r.q, 0, none⟩)] w3 fun e w' => e = .returned (.int .u64 (inputOf s)) ∧ Both W wr N s r vr refs w' :=
  (rinput_any (h.rd3 d)).mono fun e w' ⟨he, d'⟩ => by
    refine ⟨by rw [he, input_same h], nextSt s, rnextSt r, ?_, ?_, h.two d d' ?_ ?_, two_keeps d d'⟩
    · unfold nextSt; split <;> rfl
    · unfold rnextSt; split <;> rfl
    · obtain ⟨e1, e2, e3, e4, e5, e6, e7⟩ := h.same
      unfold nextSt rnextSt
      by_cases hl : s.taken < s.ins.length
      · rw [if_pos hl, if_pos (by rw [← e3, ← e4]; exact hl)]
        exact ⟨e1, e2, e3, by show s.taken + 1 = r.taken + 1; rw [e4], e5, e6, e7⟩
      · rw [if_neg hl, if_neg (by rw [← e3, ← e4]; exact hl)]
        exact h.same
    · unfold nextSt; split <;> exact h.few

/-- What an allocation answers. -/
def allocE (s : WSt) (t n : Int) : Value := if allocB s.ws s.room t n then .tuple #[.int .u64 s.ws.length, .bool true] else .tuple #[.int .u64 0, .bool false]
theorem allocE_form (s : WSt) (t n : Int) : ∃ (x : Int) (b : Bool), allocE s t n = .tuple #[.int .u64 x, .bool b] := by
  unfold allocE
  split
  · exact ⟨_, _, rfl⟩
  · exact ⟨_, _, rfl⟩
theorem allocW_e {B : Nat} {w w' : World} {t n : Int} {e : Ending} (h : AllocW B w s t n e w') : e = .returned (allocE s t n) ∧ ∃ s', Does B w s s' w' ∧ (s' = s ∧ allocB s.ws s.room t n = false ∨ allocB s.ws s.room t n = true ∧ ∃ g c, s' = grow s g c (allocWs s.ws t n)) := by
  unfold allocE
  rcases h with ⟨h1, h2, g, c, h3⟩ | ⟨h1, h2, h3⟩
  · rw [h1]; exact ⟨h2, _, h3, .inr ⟨rfl, g, c, rfl⟩⟩
  · rw [h1]; exact ⟨h2, s, h3, .inl ⟨rfl, rfl⟩⟩
theorem two_alloc (h : Pl W wr N s r vr refs) {t n : Int} (d : Does N wr s s' w3) (hs : s' = s ∧ allocB s.ws s.room t n = false ∨ allocB s.ws s.room t n = true ∧ ∃ g c, s' = grow s g c (allocWs s.ws t n))
    {e : Ending} {w4 : World} (k : RAllocW W.heap.size w3 r t n e w4) : e = .returned (allocE s t n) ∧ Both W wr N s r vr refs w4 := by
  obtain ⟨e1, e2, e3, e4, e5, e6, e7⟩ := h.same
  unfold allocE
  rcases k with ⟨k1, k2, g, c, k3⟩ | ⟨k1, k2, k3⟩
  · rw [← e1, ← e6] at k1
    rw [k1]
    refine ⟨by rw [k2, ← e1]; rfl, ?_⟩
    rcases hs with ⟨_, hf⟩ | ⟨_, g', c', rfl⟩
    · rw [k1] at hf; cases hf
    · refine ⟨grow s g' c' (allocWs s.ws t n), rgrow r g c (allocWs r.ws t n), rfl, rfl, h.two d k3 ⟨?_, e2, e3, e4, e5, e6, e7⟩ h.few, two_keeps d k3⟩
      show allocWs s.ws t n = allocWs r.ws t n
      rw [e1]
  · rw [← e1, ← e6] at k1
    rw [k1]
    refine ⟨by rw [k2]; rfl, ?_⟩
    rcases hs with ⟨rfl, _⟩ | ⟨hf, _⟩
    · exact ⟨_, _, rfl, rfl, h.two d k3 h.same h.few, two_keeps d k3⟩
    · rw [k1] at hf; cases hf

theorem pl_object (h : Pl W wr N s r vr refs) (t : Int) :
    Calls Tryd.prog 15 #[.pointer (some ⟨s.q, 0, none⟩), .int .i64 t] wr fun e w' => e = .returned (allocE s t (wordAt sizesI t)) ∧ ∃ s', Does N wr s s' w' ∧ (s' = s ∧ allocB s.ws s.room t (wordAt sizesI t) = false ∨ allocB s.ws s.room t (wordAt sizesI t) = true ∧ ∃ g c, s' = grow s g c (allocWs s.ws t (wordAt sizesI t))) :=
  (object_any h.wd t).mono fun e w' hd => by
    rw [h.same.2.2.2.2.2.2] at hd
    exact allocW_e hd
theorem pl_robject (h : Pl W wr N s r vr refs) {t : Int} (d : Does N wr s s' w3) (hs : s' = s ∧ allocB s.ws s.room t (wordAt sizesI t) = false ∨ allocB s.ws s.room t (wordAt sizesI t) = true ∧ ∃ g c, s' = grow s g c (allocWs s.ws t (wordAt sizesI t))) :
    Calls Tryd.prog 16 #[.pointer (some ⟨r.q, 0, none⟩), .int .i64 t] w3 fun e w' => e = .returned (allocE s t (wordAt sizesI t)) ∧ Both W wr N s r vr refs w' :=
  (robject_any (h.rd3 d) t).mono fun _ _ hd => two_alloc h d hs hd
theorem pl_slice (h : Pl W wr N s r vr refs) (t n : Int) :
    Calls Tryd.prog 17 #[.pointer (some ⟨s.q, 0, none⟩), .int .i64 t, .int .i64 n] wr fun e w' => e = .returned (allocE s t n) ∧ ∃ s', Does N wr s s' w' ∧ (s' = s ∧ allocB s.ws s.room t n = false ∨ allocB s.ws s.room t n = true ∧ ∃ g c, s' = grow s g c (allocWs s.ws t n)) :=
  (slice_any h.wd t n).mono fun _ _ hd => allocW_e hd
theorem pl_rslice (h : Pl W wr N s r vr refs) {t n : Int} (d : Does N wr s s' w3) (hs : s' = s ∧ allocB s.ws s.room t n = false ∨ allocB s.ws s.room t n = true ∧ ∃ g c, s' = grow s g c (allocWs s.ws t n)) :
    Calls Tryd.prog 18 #[.pointer (some ⟨r.q, 0, none⟩), .int .i64 t, .int .i64 n] w3 fun e w' => e = .returned (allocE s t n) ∧ Both W wr N s r vr refs w' :=
  (rslice_any (h.rd3 d) t n).mono fun _ _ hd => two_alloc h d hs hd

/-- What Cat answers. -/
def catX (s : WSt) (x : ByteArray) : Int × Bool := if 2000 < x.size then (0, false) else if x.size = 0 then (0, true) else if allocB s.ws s.room 3 x.size then (s.ws.length, true) else (0, false)
def catS (s s' : WSt) (x : ByteArray) : Prop := (s' = s ∧ ¬ (x.size ≤ 2000 ∧ 0 < x.size ∧ allocB s.ws s.room 3 x.size = true)) ∨ ((x.size ≤ 2000 ∧ 0 < x.size ∧ allocB s.ws s.room 3 x.size = true) ∧ ∃ g c, s' = grow s g c (textWs s.ws x))
theorem catW_e {B : Nat} {w w' : World} {x : ByteArray} {e : Ending} (h : CatW B w s x e w') : e = .returned (.tuple #[.int .u64 (catX s x).1, .bool (catX s x).2]) ∧ ∃ s', Does B w s s' w' ∧ catS s s' x := by
  unfold catX catS
  rcases h with ⟨h1, h2, h3⟩ | ⟨h1, h2, h3⟩ | ⟨h1, h0, h4, h2, g, c, h3⟩ | ⟨h1, h0, h4, h2, h3⟩
  · rw [if_pos h1]; exact ⟨h2, s, h3, .inl ⟨rfl, fun hh => by omega⟩⟩
  · rw [if_neg (by omega), if_pos h1]; exact ⟨h2, s, h3, .inl ⟨rfl, fun hh => by omega⟩⟩
  · rw [if_neg (by omega), if_neg (by omega), if_pos h4]; exact ⟨h2, _, h3, .inr ⟨⟨h1, h0, h4⟩, g, c, rfl⟩⟩
  · rw [if_neg (by omega), if_neg (by omega), if_neg (by rw [h4]; decide)]; exact ⟨h2, s, h3, .inl ⟨rfl, fun hh => by rw [h4] at hh; cases hh.2.2⟩⟩
theorem pl_cat (h : Pl W wr N s r vr refs) (a b : Int) (ha : 0 ≤ a) (hb : 0 ≤ b) :
    Calls Tryd.prog 19 #[.pointer (some ⟨s.q, 0, none⟩), .int .u64 a, .int .u64 b] wr fun e w' => e = .returned (.tuple #[.int .u64 (catX s (strAt s.ws a ++ strAt s.ws b)).1, .bool (catX s (strAt s.ws a ++ strAt s.ws b)).2]) ∧ ∃ s', Does N wr s s' w' ∧ catS s s' (strAt s.ws a ++ strAt s.ws b) :=
  (cat_any h.wd a b ha hb).mono fun _ _ hd => catW_e hd
theorem two_cat (h : Pl W wr N s r vr refs) {x : ByteArray} (d : Does N wr s s' w3) (hs : catS s s' x) {e : Ending} {w4 : World} (k : RCatW W.heap.size w3 r x e w4) :
    e = .returned (.tuple #[.int .u64 (catX s x).1, .bool (catX s x).2]) ∧ Both W wr N s r vr refs w4 := by
  obtain ⟨e1, e2, e3, e4, e5, e6, e7⟩ := h.same
  unfold catX
  have same : s' = s → RDoes W.heap.size w3 r r w4 → Both W wr N s r vr refs w4 := fun hss k3 => by subst hss; exact ⟨_, _, rfl, rfl, h.two d k3 h.same h.few, two_keeps d k3⟩
  rcases k with ⟨k1, k2, k3⟩ | ⟨k1, k2, k3⟩ | ⟨k1, k0, k4, k2, g, c, k3⟩ | ⟨k1, k0, k4, k2, k3⟩
  · rw [if_pos k1]
    refine ⟨k2, same ?_ k3⟩
    rcases hs with ⟨hss, _⟩ | ⟨⟨hh, _⟩, _⟩
    · exact hss
    · omega
  · rw [if_neg (by omega), if_pos k1]
    refine ⟨k2, same ?_ k3⟩
    rcases hs with ⟨hss, _⟩ | ⟨⟨_, hh, _⟩, _⟩
    · exact hss
    · omega
  · rw [← e1, ← e6] at k4
    rw [if_neg (by omega), if_neg (by omega), if_pos k4]
    refine ⟨by rw [k2, ← e1], ?_⟩
    rcases hs with ⟨_, hn⟩ | ⟨_, g', c', rfl⟩
    · exact absurd ⟨k1, k0, k4⟩ hn
    · refine ⟨grow s g' c' (textWs s.ws x), rgrow r g c (textWs r.ws x), rfl, rfl, h.two d k3 ⟨?_, e2, e3, e4, e5, e6, e7⟩ h.few, two_keeps d k3⟩
      show textWs s.ws x = textWs r.ws x
      rw [e1]
  · rw [← e1, ← e6] at k4
    rw [if_neg (by omega), if_neg (by omega), if_neg (by rw [k4]; decide)]
    refine ⟨k2, same ?_ k3⟩
    rcases hs with ⟨hss, _⟩ | ⟨⟨_, _, hh⟩, _⟩
    · exact hss
    · rw [k4] at hh; cases hh
theorem pl_rcat (h : Pl W wr N s r vr refs) {a b : Int} (ha : 0 ≤ a) (hb : 0 ≤ b) (d : Does N wr s s' w3) (hs : catS s s' (strAt s.ws a ++ strAt s.ws b)) :
    Calls Tryd.prog 20 #[.pointer (some ⟨r.q, 0, none⟩), .int .u64 a, .int .u64 b] w3 fun e w' => e = .returned (.tuple #[.int .u64 (catX s (strAt s.ws a ++ strAt s.ws b)).1, .bool (catX s (strAt s.ws a ++ strAt s.ws b)).2]) ∧ Both W wr N s r vr refs w' :=
  (rcat_any (h.rd3 d) a b ha hb).mono fun _ _ hd => by
    rw [← h.same.1] at hd
    exact two_cat h d hs hd
theorem catX_bd (h : Pl W wr N s r vr refs) (x : ByteArray) : u64b (catX s x).1 := by
  have := h.wd.heap.small
  unfold catX
  repeat' split
  all_goals exact ⟨by simp only; omega, by simp only; omega⟩

/-- The step's own variable. -/
structure XS (w : World) (B : Nat) (st : PStep) : Prop where
  obj : w.heap[B]? = some (.cells #[.int .i64 st.what, .int .i64 st.a, .int .i64 st.b, .int .u64 st.v] 42 (0, 0))
theorem XS.c (h : XS wr B st) (k : Nat) : wr.cell? ⟨B, k, none⟩ = #[Value.int .i64 st.what, .int .i64 st.a, .int .i64 st.b, .int .u64 st.v][k]? := by rw [cell_of_row wr B k _ _ _ h.obj]

/-- All that a step knows: both Worlds, the references, the step's variable, which is none of theirs. -/
structure Sx (W wr : World) (N : Nat) (s : WSt) (r : RSt) (vr : Value) (refs : List Int) (B : Nat) (st : PStep) : Prop where
  pl : Pl W wr N s r vr refs
  x : XS wr B st
  off : ¬ s.Blk B ∧ ¬ r.Blk B ∧ vr.ownBlock ≠ some B
theorem Sx.lt (h : Sx W wr N s r vr refs B st) : B < wr.heap.size := heap_lt h.x.obj
/-- Between both calls. -/
theorem Sx.mid (h : Sx W wr N s r vr refs B st) (d : Does N wr s s' w3) : XS w3 B st := ⟨(d.2.fr.block B h.lt (fun hm => h.off.1 (.inl hm))).trans h.x.obj⟩
theorem Sx.both {w4 : World} (h : Sx W wr N s r vr refs B st) (k : Both W wr N s r vr refs w4) : ∃ s' r', s'.q = s.q ∧ r'.q = r.q ∧ Sx W w4 N s' r' vr refs B st := by
  obtain ⟨s', r', e1, e2, hp, hk⟩ := k
  obtain ⟨k1, k2, k3⟩ := hk B h.lt h.off.1 h.off.2.1
  exact ⟨s', r', e1, e2, hp, ⟨k1.trans h.x.obj⟩, k2, k3, h.off.2.2⟩
theorem Sx.up {w4 : World} (h : Sx W wr N s r vr refs B st) (u : Up wr w4) : Sx W w4 N s r vr refs B st := ⟨h.pl.up u, ⟨(u.block B h.lt (fun h => h)).trans h.x.obj⟩, h.off⟩
theorem Sx.push {w4 : World} {x : Int} {g' c' : Nat} (h : Sx W wr N s r vr refs B st) (hx : u64b x) (ho : w4.ownsRow W.heap.size 38 1 (.slice (some ⟨g', 0, none⟩) (refs.length + 1) c') (refs.length + 1) (refs.map (Value.int .u64) ++ [.int .u64 x]))
    (hg : wr.grownBy w4 vr.ownBlock) (hb : vr.ownBlock = some g' ∨ wr.heap.size ≤ g') : Sx W w4 N s r (.slice (some ⟨g', 0, none⟩) (refs.length + 1) c') (refs ++ [x]) B st := by
  have hlt := h.lt
  refine ⟨h.pl.push hx ho hg hb, ⟨(hg.block B hlt (fun e => h.off.2.2 e.symm)).trans h.x.obj⟩, h.off.1, h.off.2.1, fun e => ?_⟩
  have e2 : g' = B := by simpa [Value.ownBlock] using e
  rcases hb with e3 | e3
  · exact h.off.2.2 (by rw [e3, e2])
  · omega
theorem sx_new (h : Pl W wr N s r vr refs) (st : PStep) : Sx W (wr.alloc (.cells #[.int .i64 st.what, .int .i64 st.a, .int .i64 st.b, .int .u64 st.v] 42)) N s r vr refs wr.heap.size st :=
  ⟨h.up ((Fr.refl _ wr).alloc _), ⟨heap_alloc_new wr _⟩, fun hh => by have := (h.wd.lt _ hh).2; omega, fun hh => by have := (h.rd.lt _ hh).2; omega, fun e => by have := (h.rlt _ e).2; omega⟩

theorem eq_same (h : Pl W wr N s r vr refs) (a b : Int) : eqT (strAt s.ws a) (strAt s.ws b) = ((strAt r.ws a).toList == (strAt r.ws b).toList) := by rw [h.same.1]; rfl
end


/-- The cells of the reference's World that are read. -/
def Rs4 (w : World) (r : RSt) : Prop := w.cell? ⟨r.q, 5, none⟩ = some (.pointer (some ⟨r.p, 0, none⟩)) ∧ w.cell? ⟨r.p, 1, none⟩ = some (.slice (some ⟨r.g, 0, none⟩) r.ws.length r.cap) ∧ w.cell? ⟨r.q, 9, none⟩ = some r.vt ∧ w.cell? ⟨r.q, 8, none⟩ = some (.int .i64 r.taken)
theorem rs4 {B : Nat} {w : World} {r : RSt} (h : RWd B w r) : Rs4 w r := ⟨h.c5, by rw [cell_of_row w r.p 1 _ _ _ h.heap.obj]; rfl, h.c9, h.c8⟩

section
variable {M : Nat} {w wv w' : World} {s s' sc sc' : WSt} {ws : List Int}
theorem words_w (h : Wd M w sc) (e : sc.ws = ws) :
    Calls Tryd.prog 27 #[.pointer (some ⟨sc.p, 0, none⟩)] w fun e w' => ∃ g c, e = .returned (.slice (some ⟨g, 0, none⟩) ws.length c) ∧ Holds w' g ws ∧ Up w w' := by
  subst e
  exact (words_any h.heap).mono fun e w' ⟨h1, h2, h3⟩ => ⟨_, _, h1, Holds.of h2, h3⟩
theorem Holds.up {g : Nat} (h : Holds w g ws) (hg : g < w.heap.size) (u : Up w w') : Holds w' g ws := fun j hj => (u.cell (p := ⟨g, j, none⟩) hg (fun h => h)).trans (h j hj)
theorem allocW_does {e : Ending} {t n : Int} (h : AllocW M w s t n e w') : ∃ y s', e = .returned y ∧ Does M w s s' w' ∧ s'.q = s.q := by
  obtain ⟨h1, s', h2, h3⟩ := allocW_e h
  refine ⟨_, s', h1, h2, ?_⟩
  rcases h3 with ⟨rfl, _⟩ | ⟨_, g, c, rfl⟩
  · rfl
  · rfl

/-- A copy at work: what was there ahead of it stays. -/
structure Cp (wv w : World) (sc : WSt) : Prop where
  up : Up wv w
  wd : Wd wv.heap.size w sc
theorem Cp.go (h : Cp wv w sc) (u : Up w w') : Cp wv w' sc := ⟨up_trans h.up u, h.wd.up u⟩
theorem Cp.does (h : Cp wv w sc) (d : Does wv.heap.size w sc sc' w') : Cp wv w' sc' :=
  ⟨Fr.trans h.up d.2.fr (fun i hi hm => by have := (h.wd.lt i (.inl hm)).1; omega), d.1⟩
end
end Go.Proofs.YtjeplkbdgphfoaaDoor
