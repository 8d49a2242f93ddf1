/-
  The hand's maker: what it has, and its methods next and v.
-/
import Derived.Test.YtemmdbjcllcelaaDoorTnWa
import Derived.Test.YtemmdbjcllcelaaDoorOwn
import Derived.Test.YtemmdbjcllcelaaDoorHeld
import Derived.IntWalk
namespace Go.Proofs.YtemmdbjcllcelaaDoor.Tk
open Go.RowKit

/-- A name: few bytes. -/
def NmC (s : ByteArray) (cs : List Value) : Prop := cs = [.string s] ∧ s.size ≤ 6
/-- A row of names. -/
def RowS (w : World) (G : Nat → Prop) (x : List ByteArray) (cs : List Value) : Prop := ∃ v, cs = [v] ∧ SlAt w G 1 NmC v x
theorem RowS.kept {w w' : World} {G G' S : Nat → Prop} {x : List ByteArray} {cs : List Value} (h : RowS w G x cs) (hf : Fr S w w') (hG : ∀ b, G b → ¬ S b) (hG' : ∀ b, G b → G' b) : RowS w' G' x cs := by
  obtain ⟨v, e, h1⟩ := h
  exact ⟨v, e, h1.kept hf hG hG' (fun _ _ _ h => h)⟩

/-- What the maker has, but its raw numbers and its rows. -/
structure MS where
  at_ : Nat
  vv : Value
  names : Nat
  loops : Int
  size : Int
  out : ByteArray
  res : Int
  calls : Bool

/-- Blocks of names: none that the maker's methods write. -/
def Gn (base p : Nat) (vv : Value) (b : Nat) : Prop := base ≤ b ∧ b ≠ p ∧ vv.ownBlock ≠ some b

/-- The maker in memory: its struct in block p. -/
structure Mk (w : World) (base p : Nat) (A : Option Addr) (rc : Nat) (raw : List Int) (m : MS) (rows : List (List ByteArray)) : Prop where
  blk : w.heap[p]? = some (.cells #[.slice A raw.length rc, .int .i64 m.at_, m.vv, .int .i64 m.names, .int .i64 m.loops, .int .i64 m.size, .string m.out, .int .i64 m.res, .bool m.calls] 63 (0, 0))
  nums : IntsW w A rc raw
  rawb : raw ≠ [] → ∀ a, A = some a → a.block < base
  vars : OwnSl w base 66 1 (RowS w (Gn base p m.vv)) m.vv rows
  seven : rows.length = 7
  atle : m.at_ ≤ raw.length
  pb : base ≤ p
  short : ∀ x ∈ rows, x.length ≤ m.names + 3

section
variable {w w' : World} {base p : Nat} {A : Option Addr} {rc : Nat} {raw : List Int} {m m' : MS} {rows : List (List ByteArray)}

theorem Mk.plt (h : Mk w base p A rc raw m rows) : p < w.heap.size := heap_lt h.blk
theorem Mk.cell (h : Mk w base p A rc raw m rows) (i : Nat) : w.cell? ⟨p, i, none⟩ = (#[.slice A raw.length rc, .int .i64 m.at_, m.vv, .int .i64 m.names, .int .i64 m.loops, .int .i64 m.size, .string m.out, .int .i64 m.res, .bool m.calls] : Array Value)[i]? := cell_of_row _ _ _ _ _ _ h.blk
theorem Mk.free (h : Mk w base p A rc raw m rows) (i : Nat) : w.frozen? ⟨p, i, none⟩ = false := frozen_of_row _ _ i _ _ h.blk
theorem own_nm {C : List ByteArray → List Value → Prop} {v : Value} (h : OwnSl w base 66 1 C v rows) {cs : Array Value} (hg : w.heap[p]? = some (.cells cs 63 (0, 0))) : v.ownBlock ≠ some p := by
  obtain ⟨_, _, ho⟩ := h
  rcases ho.2 with ⟨e, _⟩ | ⟨g', cap, cur, e, _, hh, _⟩
  · rw [e]; simp [Value.ownBlock]
  · intro he
    rw [e] at he
    have : g' = p := by simpa [Value.ownBlock] using he
    subst this
    rw [hg] at hh
    injection hh with hh
    injection hh with _ ht
    exact absurd ht (by decide)
theorem Mk.vne (h : Mk w base p A rc raw m rows) : m.vv.ownBlock ≠ some p := own_nm h.vars h.blk

theorem add_blk (a : Addr) (k : Nat) : (a.add k).block = a.block := by unfold Addr.add; split <;> rfl
theorem ints_kept {w w' : World} {S : Nat → Prop} {A : Option Addr} {rc : Nat} {raw : List Int} (h : IntsW w A rc raw) (hf : Fr S w w') (hS : raw ≠ [] → ∀ a, A = some a → ¬ S a.block) : IntsW w' A rc raw :=
  ⟨h.le, h.big, fun k x hk => by
    obtain ⟨a, rfl, hc⟩ := h.at_ k x hk
    refine ⟨a, rfl, (hf.cell (p := a.add k) (World.block_lt_of_cell? w _ hc) (by rw [add_blk]; exact hS (by rintro rfl; simp at hk) a rfl)).trans hc⟩⟩

/-- Over a frame that leaves it alone. -/
theorem Mk.over {S : Nat → Prop} (h : Mk w base p A rc raw m rows) (hf : Fr S w w') (hp : ¬ S p) (hv : ∀ b, m.vv.ownBlock = some b → ¬ S b) (hG : ∀ b, Gn base p m.vv b → ¬ S b) (hr : ∀ b, b < base → ¬ S b) : Mk w' base p A rc raw m rows :=
  ⟨(hf.block p h.plt hp).trans h.blk, ints_kept h.nums hf (fun hne a ha => hr _ (h.rawb hne a ha)), h.rawb, h.vars.kept hf hv (fun _ _ _ hc => hc.kept hf hG (fun _ h => h)), h.seven, h.atle, h.pb, h.short⟩
theorem Mk.up (h : Mk w base p A rc raw m rows) (hu : Fr (fun _ => False) w w') : Mk w' base p A rc raw m rows := h.over hu (fun h => h) (fun _ _ h => h) (fun _ _ h => h) (fun _ _ h => h)

/-- One cell of the struct set: neither the raw numbers nor the variables. -/
theorem Mk.put (h : Mk w base p A rc raw m rows) (i : Nat) (u : Value) (m' : MS) (hvv : m'.vv = m.vv) (hat : m'.at_ ≤ raw.length) (hsh : ∀ x ∈ rows, x.length ≤ m'.names + 3)
    (he : (#[.slice A raw.length rc, .int .i64 m.at_, m.vv, .int .i64 m.names, .int .i64 m.loops, .int .i64 m.size, .string m.out, .int .i64 m.res, .bool m.calls] : Array Value).setIfInBounds i u = #[.slice A raw.length rc, .int .i64 m'.at_, m'.vv, .int .i64 m'.names, .int .i64 m'.loops, .int .i64 m'.size, .string m'.out, .int .i64 m'.res, .bool m'.calls]) :
    Mk (w.setCell ⟨p, i, none⟩ u) base p A rc raw m' rows ∧ Fr (fun b => b = p) w (w.setCell ⟨p, i, none⟩ u) := by
  have hf : Fr (fun b => b = p) w (w.setCell ⟨p, i, none⟩ u) := (Fr.refl (fun b => b = p) w).setCell (p := ⟨p, i, none⟩) (fun _ => rfl) u
  refine ⟨⟨?_, ints_kept h.nums hf (fun hne a ha e => ?_), h.rawb, ?_, h.seven, hat, h.pb, hsh⟩, hf⟩
  · rw [← he]; simp [World.setCell, Array.getElem?_modify, h.blk]
  · have := h.rawb hne a ha
    have := h.pb
    omega
  · rw [hvv]
    exact h.vars.kept hf (fun b hb e => h.vne (by rw [hb, e])) (fun _ _ _ hc => hc.kept hf (fun b hb e => hb.2.1 e) (fun _ h => h))
end

/-- The struct's frame. -/
abbrev FM (p : Nat) : World → World → Prop := Fr (fun b => b = p)
theorem FM.trans {p : Nat} {a b c : World} (h : FM p a b) (k : FM p b c) : FM p a c := Fr.trans h k (fun _ _ h => h)

set_option maxHeartbeats 1000000 in
theorem next_any {w : World} {base p : Nat} {A : Option Addr} {rc : Nat} {raw : List Int} {m : MS} {rows : List (List ByteArray)} (h : Mk w base p A rc raw m rows) (M : Nat) (h1 : 1 ≤ M) (h2 : M ≤ 1000000) :
    Calls Tryd.prog 22 #[.pointer (some ⟨p, 0, none⟩), .int .i64 M] w fun e w' => ∃ j a : Nat, j < M ∧ e = .returned (.int .i64 j) ∧ Mk w' base p A rc raw { m with at_ := a } rows ∧ FM p w w' := by
  have H := Lib.hid h
  have c0 := h.cell 0
  have c1 := h.cell 1
  have f1 := h.free 1
  have hrl := h.nums.le
  have hrb := h.nums.big
  have hat := h.atle
  simp only [List.getElem?_toArray, List.getElem?_cons_zero, List.getElem?_cons_succ] at c0 c1
  have u0 : Value := undef
  obtain ⟨k, hk⟩ : ∃ k, k = m.at_ := ⟨_, rfl⟩
  rw [← hk] at c1 hat
  by_cases hlt : k < raw.length
  · have k1 : (k : Int) < (raw.length : Int) := by omega
    have hkk := Lib.hid hk
    clear h f1 hk u0
    go_enter Tryd.func22, Tryd.ntmps22
    go_wp2_with fail
    go_quiet (fail)
    rename Nat => n0
    have HD := H.out.up (Fr.drewN (Fr.refl _ w) n0)
    have FD := Lib.hid (Fr.drewN (Fr.refl (fun b => b = p) w) n0)
    generalize w.drewN n0 = wd at HD FD ⊢
    clear c0 c1
    have c1 := HD.cell 1
    have f1 := HD.free 1
    simp only [List.getElem?_toArray, List.getElem?_cons_zero, List.getElem?_cons_succ] at c1
    rw [← hkk.out] at c1
    obtain ⟨y, hy⟩ : ∃ y, raw[k]? = some y := ⟨_, List.getElem?_eq_getElem hlt⟩
    obtain ⟨a, rfl, cx⟩ := HD.nums.at_ k y hy
    obtain ⟨j, hj, hp, hz⟩ := pick_nat y M h1 h2
    clear hz
    have PK := Lib.hid hp
    obtain ⟨hm1, hf1⟩ := HD.put 1 (.int .i64 ((k : Int) + 1)) { m with at_ := k + 1 } rfl (show k + 1 ≤ raw.length by omega) HD.short (by rfl)
    have M1 := Lib.hid hm1
    have F1 := Lib.hid (FM.trans FD.out hf1)
    have d0 := hm1.cell 0
    have d1 := hm1.cell 1
    simp only [List.getElem?_toArray, List.getElem?_cons_zero, List.getElem?_cons_succ] at d0 d1
    have hab := HD.rawb (by rintro rfl; simp at hlt) a rfl
    have hpb := HD.pb
    have cy : (wd.setCell ⟨p, 1, none⟩ (.int .i64 ((k : Int) + 1))).cell? (a.add k) = some (.int .i64 y) := by
      rw [hf1.cell (p := a.add k) (World.block_lt_of_cell? wd _ cx) (by rw [add_blk]; omega)]
      exact cx
    have wr2 : IntKind.i64.wrap (k : Int) = (k : Int) := IntWalk.i64_in _ (by omega)
    have wr3 : (k : Int) + 1 - 1 = (k : Int) := by omega
    have wr : IntKind.i64.wrap ((k : Int) + 1) = (k : Int) + 1 := IntWalk.i64_in _ (by omega)
    have d1' : (wd.setCell ⟨p, 1, none⟩ (.int .i64 ((k : Int) + 1))).cell? ⟨p, 1, none⟩ = some (.int .i64 ((k : Int) + 1)) := d1
    clear hm1 hf1 hab hpb hy hp cx HD d1 FD hat hrl hrb
    go_wp2_with fail
    clear c1 f1
    generalize wd.setCell ⟨p, 1, none⟩ (.int .i64 ((k : Int) + 1)) = w1 at M1 F1 d0 d1' cy ⊢
    go_quiet ((go_at_call 5; exact quietS ((PK.out _).mono fun _ _ h => ⟨h.1, h.2.symm⟩)))
    rename Nat => n1
    go_wp2_with fail
    go_ret
    exact ⟨j, k + 1, hj, rfl, M1.out.up (Fr.drewN (Fr.refl _ w1) n1), FM.trans F1.out (Fr.drewN (Fr.refl _ w1) n1)⟩
  · have k1 : ¬ (k : Int) < (raw.length : Int) := by omega
    have k2 : (k : Int) ≥ (raw.length : Int) := by omega
    clear h f1 hk u0
    go_enter Tryd.func22, Tryd.ntmps22
    go_wp2_with fail
    go_quiet (fail)
    rename Nat => n0
    go_wp2_with fail
    go_ret
    exact ⟨0, m.at_, by omega, rfl, H.out.up (Fr.drewN (Fr.refl _ w) n0), Fr.drewN (Fr.refl _ w) n0⟩
/-- One row of the maker's variables, laid for a walk. -/
theorem Mk.row {w : World} {base p : Nat} {A : Option Addr} {rc : Nat} {raw : List Int} {m : MS} {rows : List (List ByteArray)} (h : Mk w base p A rc raw m rows) {t : Nat} (ht : t < 7) :
    ∃ (g c cr : Nat) (Ar : Option Addr) (x : List ByteArray), m.vv = .slice (some ⟨g, 0, none⟩) 7 c ∧ 7 ≤ c ∧ w.cell? ⟨g, t, none⟩ = some (.slice Ar x.length cr) ∧ SlP w (Gn base p m.vv) 1 NmC Ar cr x ∧ x.length ≤ m.names + 3 ∧ rows[t]? = some x := by
  have hs := h.seven
  have hv := h.vars.reads
  obtain ⟨A', c', e, hp⟩ := hv.parts
  obtain ⟨b, o, cs, e2, hb, _, ⟨v, rfl, hr⟩, _, hc⟩ := hp.elem (k := t) (by omega)
  obtain ⟨Ar, cr, rfl, hr2⟩ := hr.parts
  have e0 : ∃ cap g, m.vv = .slice (some ⟨g, 0, none⟩) rows.length cap := by
    obtain ⟨_, _, ho⟩ := h.vars
    rcases ho.2 with ⟨_, h0⟩ | ⟨g', cap, cur, e, _⟩
    · omega
    · exact ⟨cap, g', e⟩
  obtain ⟨cap, g, e0⟩ := e0
  rw [e0] at e
  simp only [Value.slice.injEq] at e
  obtain ⟨rfl, _, rfl⟩ := e
  simp only [Option.some.injEq, Addr.mk.injEq, and_true] at e2
  obtain ⟨rfl, rfl⟩ := e2
  have hcell := hc 0 _ rfl
  have := hp.le
  refine ⟨g, cap, cr, Ar, rows[t], by rw [e0, hs], by omega, by simpa using hcell, hr2, h.short _ (List.getElem_mem _), List.getElem?_eq_getElem (by omega)⟩

set_option maxHeartbeats 1000000 in
theorem v_any {w : World} {base p : Nat} {A : Option Addr} {rc : Nat} {raw : List Int} {m : MS} {rows : List (List ByteArray)} (h : Mk w base p A rc raw m rows) (t : Nat) (ht : t < 7) (hn : m.names ≤ 100) :
    Calls Tryd.prog 76 #[.pointer (some ⟨p, 0, none⟩), .int .i64 t] w fun e w' => ∃ (s : ByteArray) (a : Nat), e = .returned (.string s) ∧ s.size ≤ 6 ∧ Mk w' base p A rc raw { m with at_ := a } rows ∧ FM p w w' := by
  obtain ⟨g, c, cr, Ar, x, hvv, hc7, cx, hx, hxl, _⟩ := h.row ht
  have c2 := h.cell 2
  simp only [List.getElem?_toArray, List.getElem?_cons_zero, List.getElem?_cons_succ] at c2
  rw [hvv] at c2
  have H := Lib.hid h
  have X := Lib.hid hx
  have xle := hx.le
  have xbig := hx.big
  have t7 : (t : Int) < 7 := by omega
  clear h hx hvv
  by_cases h0 : x.length = 0
  · have e0 : ((x.length : Int) == 0) = true := by rw [h0]; rfl
    clear hxl hn
    go_enter Tryd.func76, Tryd.ntmps76
    go_wp2_with fail
    go_ret
    exact ⟨_, m.at_, rfl, by decide, H.out, Fr.refl _ _⟩
  · have e0 : ((x.length : Int) == 0) = false := beq_eq_false_iff_ne.2 (by omega)
    have NX := Lib.hid (next_any H.out x.length (by omega) (by omega))
    clear hxl hn
    go_enter Tryd.func76, Tryd.ntmps76
    go_wp2_with fail
    refine NX.out.mono ?_
    rintro e w1 ⟨j, a, hj, rfl, hm, hf⟩
    obtain ⟨b, o, cs, rfl, hb, hlt, ⟨rfl, hsz⟩, _, hcs⟩ := (X.out.kept hf (fun b hb => hb.2.1) (fun _ h => h) (fun _ _ _ h => h)).elem hj
    have cj := hcs 0 _ rfl
    simp only [Nat.mul_one, Nat.add_zero] at cj
    have hji : (j : Int) < (x.length : Int) := by omega
    have HM := Lib.hid hm
    have HF := Lib.hid hf
    have HS := Lib.hid hsz
    clear hm hf hsz hcs cx c2
    go_wp2_with fail
    go_ret
    exact ⟨_, a, rfl, HS.out, HM.out, HF.out⟩

end Go.Proofs.YtemmdbjcllcelaaDoor.Tk
