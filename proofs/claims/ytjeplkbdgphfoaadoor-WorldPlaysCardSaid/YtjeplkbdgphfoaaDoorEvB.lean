/-
  A run that is reckoned over blocks with names of its own: the memory that it speaks of: no function of a program is named here.
-/
import Derived.Test.YtjeplkbdgphfoaaDoorEvA
import Derived.Laws.Rows
import Derived.Laws.CopyRow
import Derived.Test.YtjeplkbdgphfoaaDoorApp2
namespace Go.Proofs.YtjeplkbdgphfoaaDoor
open Go.RowKit

theorem one_eq (v : Value) : one v = v.oneCell' := by cases v <;> rfl

/-- How many elements a block has room for. -/
def Room (ty : TypeId × Nat) (κ : Nat) (cs : Array Value) : Prop := ty.2 = 0 ∨ (κ ≤ maxLen ∧ cs.size = κ * ty.2)

/-- What a map holds, entry by entry; and as one value that no cell holds. -/
def flatM : List MapEntry → List Value
  | [] => []
  | e :: r => e.key :: e.val :: .int .u64 e.born :: flatM r
def mapV (clock : Nat) (l : List Value) : Value := .func (.yield clock) #[] ⟨l⟩
/-- Memory holds what is said of the named blocks. -/
structure WR (P : Program) (ρ : Rho) (H : Hp) (w : World) : Prop where
  dom : ∀ b, ρ b = none ↔ H b = .unborn
  inj : ∀ (b b' : Nat) (ty ty' : TypeId × Nat) (c c' : Nat → Option Value) (k κ κ' : Nat), H b = .live ty c → H b' = .live ty' c' → ρ b = some (k, κ) → ρ b' = some (k, κ') → b = b'
  map : ∀ (b : Nat) (ty : TypeId × Nat) (cell : Nat → Option Value), H b = .live ty cell → ty.2 = mp → ∃ (k κ : Nat) (es : Array MapEntry) (clock : Nat), ρ b = some (k, κ) ∧ w.heap[k]? = some (.map es clock) ∧ ∀ (o : Nat) (v : Value), cell o = some v → o = tyOff ∧ ∃ l, v = mapV clock l ∧ VL ρ l (flatM es.toList)
  blk : ∀ (b : Nat) (ty : TypeId × Nat) (cell : Nat → Option Value), H b = .live ty cell → ty.2 ≠ mp → ∃ (k κ : Nat) (cs : Array Value) (t' : TypeId) (fz : Nat × Nat), ρ b = some (k, κ) ∧ w.heap[k]? = some (.cells cs t' fz) ∧ (ty.2 ≠ ro → t' = ty.1 ∧ fz = (0, 0) ∧ Room ty κ cs) ∧
    ∀ (o : Nat) (v : Value), cell o = some v → (o = tyOff ∧ ty.2 = 0 ∧ v = tyV t') ∨ ∃ v', cs[o]? = some v' ∧ V ρ v v'

/-- The blocks that deeds write. -/
def wrote : List Ac → List Nat
  | [] => []
  | .wr b _ _ :: t => b :: wrote t
  | .mv a _ _ _ _ :: t => a :: wrote t
  | _ :: t => wrote t
theorem wrote_append {t u : List Ac} : wrote (t ++ u) = wrote t ++ wrote u := by
  induction t with
  | nil => rfl
  | cons a t ih => cases a <;> simp [wrote, ih]

/-- What holds behind deeds. -/
structure Went (P : Program) (ρ : Rho) (H : Hp) (w : World) (t : List Ac) (ρ' : Rho) (w' : World) : Prop where
  wr : WR P ρ' (apps H t) w'
  ext : ∀ b x, ρ b = some x → ρ' b = some x
  fr : Fr (fun k => ∃ b ∈ wrote t, ∃ κ, ρ b = some (k, κ)) w w'
  new : ∀ b k κ, ρ' b = some (k, κ) → ρ b = some (k, κ) ∨ w.heap.size ≤ k ∨ ∃ a ∈ wrote t, ∃ κ', ρ a = some (k, κ')

section
variable {P : Program} {ρ ρ' ρ'' : Rho} {H : Hp} {w w' w'' : World} {t u : List Ac}

theorem Went.refl (h : WR P ρ H w) : Went P ρ H w [] ρ w := ⟨h, fun _ _ h => h, Fr.refl _ _, fun _ _ _ h => .inl h⟩
theorem Went.drew (h : WR P ρ H w) : Went P ρ H w [] ρ w.drew := ⟨⟨h.dom, h.inj, h.map, h.blk⟩, fun _ _ h => h, (Fr.refl _ _).drew, fun _ _ _ h => .inl h⟩
theorem Went.trans (h : Went P ρ H w t ρ' w') (k : Went P ρ' (apps H t) w' u ρ'' w'') : Went P ρ H w (t ++ u) ρ'' w'' := by
  have back : ∀ b k κ, ρ' b = some (k, κ) → k < w.heap.size → ∃ b' ∈ b :: wrote t, ∃ κ', ρ b' = some (k, κ') := by
    intro b k κ hb hk
    rcases h.new b k κ hb with h1 | h1 | ⟨a, ha, κ', h1⟩
    · exact ⟨b, List.mem_cons_self, κ, h1⟩
    · omega
    · exact ⟨a, List.mem_cons_of_mem _ ha, κ', h1⟩
  refine ⟨by rw [apps_append]; exact k.wr, fun b x hb => k.ext b x (h.ext b x hb), ?_, ?_⟩
  · refine Fr.trans (h.fr.mono fun i _ hi => ?_) k.fr fun i hi ht => ?_
    · obtain ⟨b, hb, κ, hr⟩ := hi
      exact ⟨b, by rw [wrote_append]; exact List.mem_append_left _ hb, κ, hr⟩
    · obtain ⟨b, hb, κ, hr⟩ := ht
      obtain ⟨b', hb', κ', hr'⟩ := back b i κ hr hi
      refine ⟨b', ?_, κ', hr'⟩
      rw [wrote_append]
      rcases List.mem_cons.1 hb' with rfl | h1
      · exact List.mem_append_right _ hb
      · exact List.mem_append_left _ h1
  · intro b k2 κ hb
    rw [wrote_append]
    rcases k.new b k2 κ hb with h1 | h1 | ⟨a, ha, κ', h1⟩
    · rcases h.new b k2 κ h1 with h2 | h2 | ⟨a, ha, κ', h2⟩
      · exact .inl h2
      · exact .inr (.inl h2)
      · exact .inr (.inr ⟨a, List.mem_append_left _ ha, κ', h2⟩)
    · exact .inr (.inl (Nat.le_trans h.fr.size h1))
    · rcases Nat.lt_or_ge k2 w.heap.size with hlt | hge
      · obtain ⟨b', hb', κ'', hr'⟩ := back a k2 κ' h1 hlt
        refine .inr (.inr ⟨b', ?_, κ'', hr'⟩)
        rcases List.mem_cons.1 hb' with rfl | h2
        · exact List.mem_append_right _ ha
        · exact List.mem_append_left _ h2
      · exact .inr (.inl hge)

theorem WR.of_tape (h : WR P ρ H w) {f : Nat → Question → Nat} {n : Nat} : WR P ρ H { w with tape := f, drawn := n } := ⟨h.dom, h.inj, h.map, h.blk⟩

/-- What is told of a cell that is no type, or no map: the block is a row. -/
theorem WR.row (h : WR P ρ H w) {b o : Nat} {ty : TypeId × Nat} {c : Nat → Option Value} {v : Value} (e : H b = .live ty c) (hc : c o = some v) (hv : o ≠ tyOff ∨ ∀ k l, v ≠ mapV k l) : ty.2 ≠ mp := by
  intro hm
  obtain ⟨_, _, _, cl, _, _, hx⟩ := h.map b ty c e hm
  obtain ⟨h1, l, h2, _⟩ := hx o v hc
  rcases hv with hv | hv
  · exact hv h1
  · exact hv _ _ h2
theorem WR.at (h : WR P ρ H w) {b : Nat} {ty : TypeId × Nat} {c : Nat → Option Value} (e : H b = .live ty c) : ∃ k κ o, ρ b = some (k, κ) ∧ w.heap[k]? = some o := by
  by_cases hm : ty.2 = mp
  · obtain ⟨k, κ, es, cl, h1, h2, _⟩ := h.map b ty c e hm
    exact ⟨k, κ, _, h1, h2⟩
  · obtain ⟨k, κ, cs, t', fz, h1, h2, _⟩ := h.blk b ty c e hm
    exact ⟨k, κ, _, h1, h2⟩
/-- What a map holds is read. -/
theorem WR.mrd (h : WR P ρ H w) {b cl : Nat} {l : List Value} (hk : Ok H (.rd b tyOff (mapV cl l))) : ∃ k κ es, ρ b = some (k, κ) ∧ w.heap[k]? = some (.map es cl) ∧ VL ρ l (flatM es.toList) := by
  obtain ⟨ty, c, e, hc⟩ := hk
  by_cases hm : ty.2 = mp
  · obtain ⟨k, κ, es, cl', h1, h2, hx⟩ := h.map b ty c e hm
    obtain ⟨_, l', h3, h4⟩ := hx _ _ hc
    unfold mapV at h3
    cases h3
    exact ⟨k, κ, es, h1, h2, h4⟩
  · exfalso
    obtain ⟨k, κ, cs, t', fz, h1, h2, _, hx⟩ := h.blk b ty c e hm
    rcases hx _ _ hc with ⟨_, _, h3⟩ | ⟨v', _, h3⟩
    · unfold tyV mapV at h3; cases h3
    · unfold mapV at h3; cases h3

/-- A cell is read. -/
theorem WR.rd (h : WR P ρ H w) {b o : Nat} {v : Value} (ho : o ≠ tyOff) (hk : Ok H (.rd b o v)) : ∃ k κ v', ρ b = some (k, κ) ∧ w.cell? ⟨k, o, none⟩ = some v' ∧ V ρ v v' := by
  obtain ⟨ty, c, e, hc⟩ := hk
  obtain ⟨k, κ, cs, t', fz, hr, hw, _, hx⟩ := h.blk b ty c e (h.row e hc (.inl ho))
  obtain ⟨v', h1, h2⟩ := (hx o v hc).resolve_left (fun h => ho h.1)
  exact ⟨k, κ, v', hr, by rw [cell_of_row _ _ _ _ _ _ hw]; exact h1, h2⟩

/-- A block's type is told. -/
theorem WR.tq (h : WR P ρ H w) {b : Nat} {t : TypeId} (hk : Ok H (.rd b tyOff (tyV t))) : ∃ k κ cs fz, ρ b = some (k, κ) ∧ w.heap[k]? = some (.cells cs t fz) := by
  obtain ⟨ty, c, e, hc⟩ := hk
  obtain ⟨k, κ, cs, t', fz, hr, hw, _, hx⟩ := h.blk b ty c e (h.row e hc (.inr fun k l h => by unfold tyV mapV at h; cases h))
  rcases hx _ _ hc with ⟨_, _, h1⟩ | ⟨v', _, h2⟩
  · obtain rfl : t = t' := by unfold tyV at h1; cases h1; rfl
    exact ⟨k, κ, cs, fz, hr, hw⟩
  · unfold tyV at h2; cases h2

theorem blkset {w : World} {g : Nat} {t : TypeId} {cs : Array Value} (h : w.heap[g]? = some (.cells cs t (0, 0))) (i : Nat) (u : Value) : (w.setCell ⟨g, i, none⟩ u).heap[g]? = some (.cells (cs.setIfInBounds i u) t (0, 0)) := by
  simp [World.setCell, Array.getElem?_modify, h]

/-- A cell is written. -/
theorem WR.wrt (h : WR P ρ H w) {b o : Nat} {v v' : Value} (hot : o ≠ tyOff) (hk : Ok H (.wr b o v)) (hv : V ρ v v') :
    ∃ k κ u, ρ b = some (k, κ) ∧ w.cell? ⟨k, o, none⟩ = some u ∧ w.frozen? ⟨k, o, none⟩ = false ∧ Went P ρ H w [.wr b o v] ρ (w.setCell ⟨k, o, none⟩ v') := by
  obtain ⟨⟨ty, c, u, e, hc, hro, hmp⟩, _⟩ := hk
  have hnm : ty.2 ≠ mp := fun e => hot (hmp.2 e)
  obtain ⟨k, κ, cs, t', fz, hr, hw, hq, hx⟩ := h.blk b ty c e hnm
  obtain ⟨rfl, rfl, hR⟩ := hq hro
  obtain ⟨u', h1, h2⟩ := (hx o u hc).resolve_left (fun h => hot h.1)
  have ea : app H (.wr b o v) = H.set b (.live ty (cellSet c o v)) := by simp only [app, e]
  have lt : o < cs.size := (Array.getElem?_eq_some_iff.1 h1).1
  refine ⟨k, κ, u', hr, by rw [cell_of_row _ _ _ _ _ _ hw]; exact h1, frozen_of_row _ _ _ _ _ hw, ⟨?_, fun _ _ h => h, ?_, fun _ _ _ h => .inl h⟩⟩
  · show WR P ρ (app H (.wr b o v)) _
    rw [ea]
    refine ⟨fun b' => ?_, ?_, ?_, ?_⟩
    · by_cases hb : b' = b
      · subst hb; rw [Hp.set_eq, hr]; simp
      · rw [Hp.set_ne hb]; exact h.dom b'
    · intro b1 b2 t1 t2 c1 c2 k' κ1 κ2 g1 g2 r1 r2
      have live : ∀ b' t' c', H.set b (.live ty (cellSet c o v)) b' = .live t' c' → ∃ t'' c'', H b' = .live t'' c'' := by
        intro b' t' c' g
        by_cases hb : b' = b
        · subst hb; exact ⟨ty, c, e⟩
        · rw [Hp.set_ne hb] at g; exact ⟨t', c', g⟩
      obtain ⟨_, _, q1⟩ := live _ _ _ g1
      obtain ⟨_, _, q2⟩ := live _ _ _ g2
      exact h.inj b1 b2 _ _ _ _ k' κ1 κ2 q1 q2 r1 r2
    · intro b' t' c' g hm
      by_cases hb : b' = b
      · subst hb
        rw [Hp.set_eq] at g
        cases g
        exact absurd hm hnm
      · rw [Hp.set_ne hb] at g
        obtain ⟨k2, κ2, es, cl, r2, w2, x2⟩ := h.map b' t' c' g hm
        have hne : k2 ≠ k := fun e2 => hb (h.inj b' b t' ty c' c k2 κ2 κ g e r2 (by rw [e2]; exact hr))
        exact ⟨k2, κ2, es, cl, r2, by rw [Below.heap_setCell _ _ _ _ hne]; exact w2, x2⟩
    · intro b' t' c' g hm'
      by_cases hb : b' = b
      · subst hb
        rw [Hp.set_eq] at g
        cases g
        refine ⟨k, κ, cs.setIfInBounds o v', _, _, hr, blkset hw o v', fun _ => ⟨rfl, rfl, ?_⟩, fun i x hi => ?_⟩
        · rcases hR with h0 | ⟨h1, h2⟩
          · exact .inl h0
          · exact .inr ⟨h1, by simpa using h2⟩
        · unfold cellSet at hi
          split at hi
          · rename_i hio
            subst hio
            cases hi
            exact .inr ⟨v', by rw [Array.getElem?_setIfInBounds]; simp [lt], hv⟩
          · rename_i hio
            rcases hx i x hi with hl | ⟨x', y1, y2⟩
            · exact .inl hl
            · exact .inr ⟨x', by rw [Array.getElem?_setIfInBounds_ne (fun e => hio e.symm)]; exact y1, y2⟩
      · rw [Hp.set_ne hb] at g
        obtain ⟨k2, κ2, cs2, t2', fz2, r2, w2, R2, x2⟩ := h.blk b' t' c' g hm'
        have hne : k2 ≠ k := fun e2 => hb (h.inj b' b t' ty c' c k2 κ2 κ g e r2 (by rw [e2]; exact hr))
        exact ⟨k2, κ2, cs2, t2', fz2, r2, by rw [Below.heap_setCell _ _ _ _ hne]; exact w2, R2, x2⟩
  · exact (Fr.refl _ w).setCell (p := ⟨k, o, none⟩) (fun _ => ⟨b, List.mem_cons_self, κ, hr⟩) v'

/-- A name for a new block. -/
def Rho.add (ρ : Rho) (b k κ : Nat) : Rho := fun i => if i = b then some (k, κ) else ρ i
theorem Rho.add_ext {b k κ : Nat} (hb : ρ b = none) : ∀ i x, ρ i = some x → Rho.add ρ b k κ i = some x := by
  intro i x hi
  unfold Rho.add
  split
  · rename_i h; subst h; rw [hb] at hi; cases hi
  · exact hi
theorem Rho.add_eq {b k κ : Nat} : Rho.add ρ b k κ b = some (k, κ) := by simp [Rho.add]
theorem Rho.add_ne {b k κ i : Nat} (h : i ≠ b) : Rho.add ρ b k κ i = ρ i := by simp [Rho.add, h]

theorem WR.lt (h : WR P ρ H w) {b k κ : Nat} {ty : TypeId × Nat} {c : Nat → Option Value} (e : H b = .live ty c) (hr : ρ b = some (k, κ)) : k < w.heap.size := by
  obtain ⟨k', κ', o, hr', hw⟩ := h.at e
  rw [hr] at hr'; cases hr'
  exact heap_lt hw

/-- A block is made. -/
theorem WR.nw (h : WR P ρ H w) {b : Nat} {ty : TypeId × Nat} {cs : List Value} {cs' : Array Value} {κ : Nat} (hnm : ty.2 ≠ mp) (hk : Ok H (.nw b ty cs)) (hl : cs.length ≤ cs'.size)
    (hv : ∀ (i : Nat) (v v' : Value), cs[i]? = some v → cs'[i]? = some v' → V ρ v v') (hR : Room ty κ cs') :
    Went P ρ H w [.nw b ty cs] (Rho.add ρ b w.heap.size κ) (w.alloc (.cells cs' ty.1)) := by
  have hb : ρ b = none := (h.dom b).2 hk.1
  refine ⟨?_, Rho.add_ext hb, (Fr.refl _ w).alloc _, ?_⟩
  · show WR P _ (H.set b (.live ty (newCell ty cs))) _
    refine ⟨fun b' => ?_, ?_, ?_, ?_⟩
    · by_cases e : b' = b
      · subst e; rw [Hp.set_eq, Rho.add_eq]; simp
      · rw [Hp.set_ne e, Rho.add_ne e]; exact h.dom b'
    · intro b1 b2 t1 t2 c1 c2 k' κ1 κ2 g1 g2 r1 r2
      by_cases e1 : b1 = b <;> by_cases e2 : b2 = b
      · rw [e1, e2]
      · subst e1
        rw [Hp.set_ne e2] at g2
        rw [Rho.add_eq] at r1
        rw [Rho.add_ne e2] at r2
        have := h.lt g2 r2
        cases r1; omega
      · subst e2
        rw [Hp.set_ne e1] at g1
        rw [Rho.add_eq] at r2
        rw [Rho.add_ne e1] at r1
        have := h.lt g1 r1
        cases r2; omega
      · rw [Hp.set_ne e1] at g1
        rw [Hp.set_ne e2] at g2
        rw [Rho.add_ne e1] at r1
        rw [Rho.add_ne e2] at r2
        exact h.inj b1 b2 _ _ _ _ k' κ1 κ2 g1 g2 r1 r2
    · intro b' t' c' g hm
      by_cases e : b' = b
      · subst e
        rw [Hp.set_eq] at g
        cases g
        exact absurd hm hnm
      · rw [Hp.set_ne e] at g
        obtain ⟨k2, κ2, es, cl, r2, w2, x2⟩ := h.map b' t' c' g hm
        exact ⟨k2, κ2, es, cl, by rw [Rho.add_ne e]; exact r2, by rw [Below.heap_alloc _ _ _ (heap_lt w2)]; exact w2, fun o v ho => by
          obtain ⟨h1, l, h2, h3⟩ := x2 o v ho
          exact ⟨h1, l, h2, h3.more (Rho.add_ext hb)⟩⟩
    · intro b' t' c' g hm'
      by_cases e : b' = b
      · subst e
        rw [Hp.set_eq, newCell_of hnm] at g
        cases g
        refine ⟨w.heap.size, κ, cs', _, _, Rho.add_eq, heap_alloc_new _ _, fun _ => ⟨rfl, rfl, hR⟩, fun o v ho => ?_⟩
        dsimp only at ho
        split at ho
        · rename_i ht
          split at ho
          · rename_i h0
            cases ho
            exact .inl ⟨ht, h0, rfl⟩
          · cases ho
        have hlt : o < cs'.size := Nat.lt_of_lt_of_le (List.getElem?_eq_some_iff.1 ho).1 hl
        exact .inr ⟨cs'[o], Array.getElem?_eq_getElem hlt, (hv o v _ ho (Array.getElem?_eq_getElem hlt)).more (Rho.add_ext hb)⟩
      · rw [Hp.set_ne e] at g
        obtain ⟨k2, κ2, cs2, t2', fz2, r2, w2, R2, x2⟩ := h.blk b' t' c' g hm'
        refine ⟨k2, κ2, cs2, t2', fz2, by rw [Rho.add_ne e]; exact r2, by rw [Below.heap_alloc _ _ _ (heap_lt w2)]; exact w2, R2, fun o v ho => ?_⟩
        rcases x2 o v ho with hl | ⟨v', y1, y2⟩
        · exact .inl hl
        · exact .inr ⟨v', y1, y2.more (Rho.add_ext hb)⟩
  · intro b' k κ' hr
    by_cases e : b' = b
    · subst e; rw [Rho.add_eq] at hr; cases hr; exact .inr (.inl (Nat.le_refl _))
    · rw [Rho.add_ne e] at hr; exact .inl hr

/-- A block grows: it stays where it is, or lies anew. -/
theorem WR.mv (h : WR P ρ H w) {a b n : Nat} {cs cs' : List Value} {k κ g κ' : Nat} {ty ty0 : TypeId × Nat} {c : Nat → Option Value} {cur : Array Value} {fz : Nat × Nat} (hk : Ok H (.mv a b ty n cs)) (ha : H a = .live ty0 c) (hra : ρ a = some (k, κ))
    (hg : g = k ∨ w.heap.size ≤ g) (hl : VL ρ cs cs') (hold : ∀ (i : Nat) (v : Value), i < n → c i = some v → ∃ v', cur[i]? = some v' ∧ V ρ v v') (hnew : ∀ (i : Nat) (v' : Value), cs'[i]? = some v' → cur[n + i]? = some v')
    (hw : w'.heap[g]? = some (.cells cur ty.1 fz)) (hR : ty.2 ≠ ro → fz = (0, 0) ∧ Room ty κ' cur) (hf : Fr (fun i => i = k) w w') :
    Went P ρ H w [.mv a b ty n cs] (Rho.add ρ b g κ') w' := by
  obtain ⟨⟨c0, m0, hq1, ⟨_, _, hq2, hq3⟩, _⟩, hub, _⟩ := hk
  have hnm : ty.2 ≠ mp := by
    rcases hq3 with h | h
    · rw [h]; exact hq2
    · rw [h]; decide
  have hb : ρ b = none := (h.dom b).2 hub
  have hab : a ≠ b := fun e => by rw [e, hub] at ha; cases ha
  have klt := h.lt ha hra
  have ea : app H (.mv a b ty n cs) = (H.set a .dead).set b (.live ty (cellMore c n cs)) := by simp only [app, ha]
  refine ⟨?_, Rho.add_ext hb, hf.mono fun i _ hi => ⟨a, List.mem_cons_self, κ, by rw [hi]; exact hra⟩, ?_⟩
  · show WR P _ (app H (.mv a b ty n cs)) _
    rw [ea]
    have other : ∀ b' t' c', b' ≠ b → ((H.set a .dead).set b (.live ty (cellMore c n cs))) b' = .live t' c' → b' ≠ a ∧ H b' = .live t' c' := by
      intro b' t' c' hne g'
      rw [Hp.set_ne hne] at g'
      by_cases e : b' = a
      · subst e; rw [Hp.set_eq] at g'; cases g'
      · rw [Hp.set_ne e] at g'; exact ⟨e, g'⟩
    have apart : ∀ b' t' c' κ1, b' ≠ b → ((H.set a .dead).set b (.live ty (cellMore c n cs))) b' = .live t' c' → ρ b' = some (g, κ1) → False := by
      intro b' t' c' κ1 hne g' hr
      obtain ⟨hna, g2⟩ := other b' t' c' hne g'
      rcases hg with rfl | hg
      · exact hna (h.inj b' a t' ty0 c' c g κ1 κ g2 ha hr hra)
      · have := h.lt g2 hr; omega
    refine ⟨fun b' => ?_, ?_, ?_, ?_⟩
    · by_cases e : b' = b
      · subst e; rw [Hp.set_eq, Rho.add_eq]; simp
      · rw [Hp.set_ne e, Rho.add_ne e]
        by_cases e2 : b' = a
        · subst e2; rw [Hp.set_eq, hra]; simp
        · rw [Hp.set_ne e2]; exact h.dom b'
    · intro b1 b2 t1 t2 c1 c2 k' κ1 κ2 g1 g2 r1 r2
      by_cases e1 : b1 = b <;> by_cases e2 : b2 = b
      · rw [e1, e2]
      · subst e1
        rw [Rho.add_eq] at r1
        rw [Rho.add_ne e2] at r2
        cases r1
        exact (apart _ _ _ _ e2 g2 r2).elim
      · subst e2
        rw [Rho.add_eq] at r2
        rw [Rho.add_ne e1] at r1
        cases r2
        exact (apart _ _ _ _ e1 g1 r1).elim
      · rw [Rho.add_ne e1] at r1
        rw [Rho.add_ne e2] at r2
        exact h.inj b1 b2 _ _ _ _ k' κ1 κ2 (other _ _ _ e1 g1).2 (other _ _ _ e2 g2).2 r1 r2
    · intro b' t' c' g' hm
      by_cases e : b' = b
      · subst e
        rw [Hp.set_eq] at g'
        cases g'
        exact absurd hm hnm
      · obtain ⟨hna, g2⟩ := other b' t' c' e g'
        obtain ⟨k2, κ2, es, cl, r2, w2, x2⟩ := h.map b' t' c' g2 hm
        have hne : k2 ≠ k := fun e2 => hna (h.inj b' a t' ty0 c' c k2 κ2 κ g2 ha r2 (by rw [e2]; exact hra))
        exact ⟨k2, κ2, es, cl, by rw [Rho.add_ne e]; exact r2, (hf.block k2 (heap_lt w2) hne).trans w2, fun o v ho => by
          obtain ⟨h1, l, h2, h3⟩ := x2 o v ho
          exact ⟨h1, l, h2, h3.more (Rho.add_ext hb)⟩⟩
    · intro b' t' c' g' hm'
      by_cases e : b' = b
      · subst e
        rw [Hp.set_eq] at g'
        cases g'
        refine ⟨g, κ', cur, _, _, Rho.add_eq, hw, fun hro => ⟨rfl, (hR hro).1, (hR hro).2⟩, fun o v ho => ?_⟩
        unfold cellMore at ho
        split at ho
        · rename_i hlt
          obtain ⟨v', y1, y2⟩ := hold o v hlt ho
          exact .inr ⟨v', y1, y2.more (Rho.add_ext hb)⟩
        · rename_i hge
          have hlt : o - n < cs'.length := by rw [← hl.1]; exact (List.getElem?_eq_some_iff.1 ho).1
          refine .inr ⟨cs'[o - n], ?_, (hl.2 (o - n) v _ ho (List.getElem?_eq_getElem hlt)).more (Rho.add_ext hb)⟩
          have := hnew (o - n) _ (List.getElem?_eq_getElem hlt)
          rwa [show n + (o - n) = o by omega] at this
      · obtain ⟨hna, g2⟩ := other b' t' c' e g'
        obtain ⟨k2, κ2, cs2, t2', fz2, r2, w2, R2, x2⟩ := h.blk b' t' c' g2 hm'
        have hne : k2 ≠ k := fun e2 => hna (h.inj b' a t' ty0 c' c k2 κ2 κ g2 ha r2 (by rw [e2]; exact hra))
        refine ⟨k2, κ2, cs2, t2', fz2, by rw [Rho.add_ne e]; exact r2, (hf.block k2 (heap_lt w2) hne).trans w2, R2, fun o v ho => ?_⟩
        rcases x2 o v ho with hl | ⟨v', y1, y2⟩
        · exact .inl hl
        · exact .inr ⟨v', y1, y2.more (Rho.add_ext hb)⟩
  · intro b' k2 κ2 hr
    by_cases e : b' = b
    · subst e
      rw [Rho.add_eq] at hr
      cases hr
      rcases hg with rfl | hg
      · exact .inr (.inr ⟨a, List.mem_cons_self, κ, hra⟩)
      · exact .inr (.inl hg)
    · rw [Rho.add_ne e] at hr; exact .inl hr

theorem heap_setObj {w : World} {g k : Nat} (o : Obj) (h : k ≠ g) : (w.heap.setIfInBounds g o)[k]? = w.heap[k]? := by
  rw [Array.getElem?_setIfInBounds_ne (Ne.symm h)]
/-- What a map holds is written. -/
theorem WR.mwr (h : WR P ρ H w) {b cl k κ cl0 : Nat} {l : List Value} {es es0 : Array MapEntry} (hk : Ok H (.wr b tyOff (mapV cl l))) (hr : ρ b = some (k, κ)) (hh : w.heap[k]? = some (.map es0 cl0)) (hl : VL ρ l (flatM es.toList)) :
    Went P ρ H w [.wr b tyOff (mapV cl l)] ρ { w with heap := w.heap.setIfInBounds k (.map es cl) } := by
  obtain ⟨⟨ty, c, u, e, hc, hro, hmp⟩, _⟩ := hk
  have hm0 : ty.2 = mp := hmp.1 rfl
  have ea : app H (.wr b tyOff (mapV cl l)) = H.set b (.live ty (cellSet c tyOff (mapV cl l))) := by simp only [app, e]
  have klt := heap_lt hh
  refine ⟨?_, fun _ _ h => h, ?_, fun _ _ _ h => .inl h⟩
  · show WR P ρ (app H (.wr b tyOff (mapV cl l))) _
    rw [ea]
    have live : ∀ b' t' c', b' ≠ b → H.set b (.live ty (cellSet c tyOff (mapV cl l))) b' = .live t' c' → H b' = .live t' c' := fun b' t' c' hb g => by rw [Hp.set_ne hb] at g; exact g
    have liv2 : ∀ b' t' c', H.set b (.live ty (cellSet c tyOff (mapV cl l))) b' = .live t' c' → ∃ t'' c'', H b' = .live t'' c'' := by
      intro b' t' c' g
      by_cases hb : b' = b
      · subst hb; exact ⟨ty, c, e⟩
      · exact ⟨_, _, live _ _ _ hb g⟩
    refine ⟨fun b' => ?_, ?_, ?_, ?_⟩
    · by_cases hb : b' = b
      · subst hb; rw [Hp.set_eq, hr]; simp
      · rw [Hp.set_ne hb]; exact h.dom b'
    · intro b1 b2 t1 t2 c1 c2 k' κ1 κ2 g1 g2 r1 r2
      obtain ⟨_, _, q1⟩ := liv2 _ _ _ g1
      obtain ⟨_, _, q2⟩ := liv2 _ _ _ g2
      exact h.inj b1 b2 _ _ _ _ k' κ1 κ2 q1 q2 r1 r2
    · intro b' t' c' g hm
      by_cases hb : b' = b
      · subst hb
        rw [Hp.set_eq] at g
        cases g
        refine ⟨k, κ, es, cl, hr, by simp [klt], fun o v ho => ?_⟩
        unfold cellSet at ho
        split at ho
        · rename_i hio
          cases ho
          exact ⟨hio, l, rfl, hl⟩
        · rename_i hio
          obtain ⟨_, _, _, _, _, _, hx⟩ := h.map _ _ _ e hm0
          exact absurd (hx o v ho).1 hio
      · have g := live _ _ _ hb g
        obtain ⟨k2, κ2, es2, cl2, r2, w2, x2⟩ := h.map b' t' c' g hm
        have hne : k2 ≠ k := fun e2 => hb (h.inj b' b t' ty c' c k2 κ2 κ g e r2 (by rw [e2]; exact hr))
        exact ⟨k2, κ2, es2, cl2, r2, by rw [heap_setObj _ hne]; exact w2, x2⟩
    · intro b' t' c' g hm'
      by_cases hb : b' = b
      · subst hb
        rw [Hp.set_eq] at g
        cases g
        exact absurd hm0 hm'
      · have g := live _ _ _ hb g
        obtain ⟨k2, κ2, cs2, t2', fz2, r2, w2, R2, x2⟩ := h.blk b' t' c' g hm'
        have hne : k2 ≠ k := fun e2 => hb (h.inj b' b t' ty c' c k2 κ2 κ g e r2 (by rw [e2]; exact hr))
        exact ⟨k2, κ2, cs2, t2', fz2, r2, by rw [heap_setObj _ hne]; exact w2, R2, x2⟩
  · refine ⟨rfl, rfl, rfl, by simp, fun i _ hi => ?_⟩
    have hne : i ≠ k := fun e => hi ⟨b, List.mem_cons_self, κ, by rw [e]; exact hr⟩
    exact heap_setObj _ hne
/-- A map is made. -/
theorem WR.mnw (h : WR P ρ H w) {b t : Nat} {v : Value} (hv : v = mapV 0 []) (hk : Ok H (.nw b (t, mp) [v])) :
    Went P ρ H w [.nw b (t, mp) [v]] (Rho.add ρ b w.heap.size 0) (w.alloc (.map #[] 0)) := by
  subst hv
  have hb : ρ b = none := (h.dom b).2 hk.1
  refine ⟨?_, Rho.add_ext hb, (Fr.refl _ w).alloc _, ?_⟩
  · show WR P _ (H.set b (.live (t, mp) (newCell (t, mp) [mapV 0 []]))) _
    refine ⟨fun b' => ?_, ?_, ?_, ?_⟩
    · by_cases e : b' = b
      · subst e; rw [Hp.set_eq, Rho.add_eq]; simp
      · rw [Hp.set_ne e, Rho.add_ne e]; exact h.dom b'
    · intro b1 b2 t1 t2 c1 c2 k' κ1 κ2 g1 g2 r1 r2
      by_cases e1 : b1 = b <;> by_cases e2 : b2 = b
      · rw [e1, e2]
      · subst e1
        rw [Hp.set_ne e2] at g2
        rw [Rho.add_eq] at r1
        rw [Rho.add_ne e2] at r2
        have := h.lt g2 r2
        cases r1; omega
      · subst e2
        rw [Hp.set_ne e1] at g1
        rw [Rho.add_eq] at r2
        rw [Rho.add_ne e1] at r1
        have := h.lt g1 r1
        cases r2; omega
      · rw [Hp.set_ne e1] at g1
        rw [Hp.set_ne e2] at g2
        rw [Rho.add_ne e1] at r1
        rw [Rho.add_ne e2] at r2
        exact h.inj b1 b2 _ _ _ _ k' κ1 κ2 g1 g2 r1 r2
    · intro b' t' c' g hm
      by_cases e : b' = b
      · subst e
        rw [Hp.set_eq] at g
        cases g
        refine ⟨w.heap.size, 0, #[], 0, Rho.add_eq, heap_alloc_new _ _, fun o v ho => ?_⟩
        unfold newCell at ho
        simp only [if_true] at ho
        split at ho
        · rename_i hio
          rw [if_neg (show ¬ mp = 0 by decide)] at ho
          cases ho
          exact ⟨hio, [], rfl, VL.nil⟩
        · cases ho
      · rw [Hp.set_ne e] at g
        obtain ⟨k2, κ2, es, cl, r2, w2, x2⟩ := h.map b' t' c' g hm
        exact ⟨k2, κ2, es, cl, by rw [Rho.add_ne e]; exact r2, by rw [Below.heap_alloc _ _ _ (heap_lt w2)]; exact w2, fun o v ho => by
          obtain ⟨h1, l, h2, h3⟩ := x2 o v ho
          exact ⟨h1, l, h2, h3.more (Rho.add_ext hb)⟩⟩
    · intro b' t' c' g hm'
      by_cases e : b' = b
      · subst e
        rw [Hp.set_eq] at g
        cases g
        exact absurd rfl hm'
      · rw [Hp.set_ne e] at g
        obtain ⟨k2, κ2, cs2, t2', fz2, r2, w2, R2, x2⟩ := h.blk b' t' c' g hm'
        refine ⟨k2, κ2, cs2, t2', fz2, by rw [Rho.add_ne e]; exact r2, by rw [Below.heap_alloc _ _ _ (heap_lt w2)]; exact w2, R2, fun o v ho => ?_⟩
        rcases x2 o v ho with hl | ⟨v', y1, y2⟩
        · exact .inl hl
        · exact .inr ⟨v', y1, y2.more (Rho.add_ext hb)⟩
  · intro b' k κ' hr
    by_cases e : b' = b
    · subst e; rw [Rho.add_eq] at hr; cases hr; exact .inr (.inl (Nat.le_refl _))
    · rw [Rho.add_ne e] at hr; exact .inl hr
end
end Go.Proofs.YtjeplkbdgphfoaaDoor
