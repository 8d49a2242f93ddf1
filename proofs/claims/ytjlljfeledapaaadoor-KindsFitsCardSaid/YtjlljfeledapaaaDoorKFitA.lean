/-
  KindsFits: which types a list that is right has, and what fits, in the law's own words.
-/
import Derived.Test.YtjlljfeledapaaaDoorTypesA
namespace Go.Proofs.YtjlljfeledapaaaDoor

theorem mname_ne : ∀ a b : Nat, a < 3 → b < 3 → sB (mname a) (mname b) = true → a = b
  | 0, 0, _, _, _ => rfl
  | 1, 1, _, _, _ => rfl
  | 2, 2, _, _, _ => rfl
  | 0, 1, _, _, h => absurd h (by decide)
  | 0, 2, _, _, h => absurd h (by decide)
  | 1, 0, _, _, h => absurd h (by decide)
  | 1, 2, _, _, h => absurd h (by decide)
  | 2, 0, _, _, h => absurd h (by decide)
  | 2, 1, _, _, h => absurd h (by decide)
  | a + 3, _, h, _, _ => by omega
  | 0, b + 3, _, h, _ => by omega
  | 1, b + 3, _, h, _ => by omega
  | 2, b + 3, _, h, _ => by omega

theorem sB_trans {a b c : ByteArray} (h : sB a b = true) (h' : sB a c = true) : sB b c = true := by
  unfold sB at *
  simp only [beq_iff_eq] at *
  rw [← h, h']

theorem offers_none {ms : List Mth} {m : Mth} (h : mthIdx ms m.name = none) : offersB ms m = false := by
  unfold offersB
  rw [List.any_eq_false]
  intro x hx
  unfold mthIdx at h
  rw [List.findIdx?_eq_none_iff] at h
  have := h x hx
  simp [callB, this]
theorem offers_some {x : Typ} (hx : Named x) {m : Mth} {n : Nat} (h : mthIdx x.methods m.name = some n) : ∃ hn : n < x.methods.length, offersB x.methods m = ((x.methods[n].result == m.result) && (x.methods[n].params == m.params)) := by
  unfold mthIdx at h
  rw [List.findIdx?_eq_some_iff_getElem] at h
  obtain ⟨hn, hp, _⟩ := h
  refine ⟨hn, ?_⟩
  have hcn : callB x.methods[n] m = ((x.methods[n].result == m.result) && (x.methods[n].params == m.params)) := by
    simp [callB, sameIntsB, hp]
  rw [← hcn]
  cases hc : callB x.methods[n] m
  · unfold offersB
    rw [List.any_eq_false]
    intro y hy hyc
    obtain ⟨k, hk, rfl⟩ := List.getElem_of_mem hy
    have hkn : sB x.methods[k].name m.name = true := by
      simp only [callB, Bool.and_eq_true] at hyc
      exact hyc.1.1
    have e1 := hx.2 n _ (List.getElem?_eq_getElem hn)
    have e2 := hx.2 k _ (List.getElem?_eq_getElem hk)
    have : sB x.methods[n].name x.methods[k].name = true := by
      rw [sB_comm] at hp hkn
      exact sB_trans hp hkn
    rw [e1, e2] at this
    have hl := hx.1
    have := mname_ne n k (by omega) (by omega) this
    subst this
    rw [hc] at hyc
    cases hyc
  · exact any_yes hn hc

theorem all_succ {α : Type} {p : α → Bool} {l : List α} {i : Nat} (hi : i < l.length) : (l.take (i + 1)).all p = ((l.take i).all p && p l[i]) := by
  rw [List.take_succ_eq_append_getElem hi, List.all_append]
  simp
theorem all_no_more {α : Type} {p : α → Bool} {l : List α} {i : Nat} (hi : i < l.length) (h : p l[i] = false) : l.all p = false := all_no hi h
theorem params_succ {a b : List Int} {j : Nat} (ha : j < a.length) (hb : j < b.length) : (a.take (j + 1) == b.take (j + 1)) = ((a.take j == b.take j) && (a[j] == b[j])) := by
  rw [List.take_succ_eq_append_getElem ha, List.take_succ_eq_append_getElem hb, Bool.eq_iff_iff]
  simp only [beq_iff_eq, Bool.and_eq_true]
  constructor
  · intro h
    have := List.append_inj h (by simp only [List.length_take]; omega)
    exact ⟨this.1, by simpa using this.2⟩
  · rintro ⟨h1, h2⟩
    rw [h1, h2]

theorem kind_of {ts : List Typ} (hr : rightB ts = true) (hb : ts.take 5 = baseT) {j : Nat} (hj : j < ts.length) : (j < 5 ∧ ts[j].kind = j) ∨ (5 ≤ j ∧ (ts[j].kind = 5 ∨ ts[j].kind = 6 ∨ ts[j].kind = 7)) := by
  by_cases h5 : j < 5
  · left
    refine ⟨h5, ?_⟩
    have e : ts[j]? = baseT[j]? := by rw [← hb, List.getElem?_take, if_pos h5]
    rw [List.getElem?_eq_getElem hj] at e
    generalize ts[j] = x at e
    clear hj hr hb
    match j, h5, e with
    | 0, _, e => simp [baseT] at e; rw [e]; rfl
    | 1, _, e => simp [baseT] at e; rw [e]; rfl
    | 2, _, e => simp [baseT] at e; rw [e]; rfl
    | 3, _, e => simp [baseT] at e; rw [e]; rfl
    | 4, _, e => simp [baseT] at e; rw [e]; rfl
  · right
    refine ⟨by omega, ?_⟩
    unfold rightB at hr
    simp only [Bool.and_eq_true, List.all_eq_true, List.mem_range] at hr
    have := (hr.2 (j - 5) (by omega)).1
    rw [show j - 5 + 5 = j by omega, typ_at hj] at this
    unfold rightTypeB at this
    split at this
    · exact .inl ‹_›
    · split at this
      · exact .inr (.inl ‹_›)
      · split at this
        · exact .inr (.inr ‹_›)
        · cases this

theorem fits_nil {ts : List Typ} {j j' : Nat} (hj : j < ts.length) (hj' : j' < ts.length) (hk : ts[j].kind = 4) : fitsB ts j j' = nilableB ts[j'].kind := by
  unfold fitsB
  rw [isType_yes hj, isType_yes hj', typ_at hj, typ_at hj', if_pos hk]; rfl
theorem fits_has {ts : List Typ} {j j' : Nat} (hj : j < ts.length) (hj' : j' < ts.length) (hk : ts[j].kind = 5) (hk' : ts[j'].kind = 7) : fitsB ts j j' = ts[j'].methods.all (offersB ts[j].methods) := by
  have hne : ¬ (j : Int) = (j' : Int) := by
    intro e
    have : j = j' := by omega
    subst this
    rw [hk] at hk'; cases hk'
  unfold fitsB hasB isKindB
  rw [isType_yes hj, isType_yes hj', typ_at hj, typ_at hj', if_neg (by rw [hk]; decide), if_neg hne, hk, hk']; rfl
theorem fits_else {ts : List Typ} (hr : rightB ts = true) (hb : ts.take 5 = baseT) {j j' : Nat} (hj : j < ts.length) (hj' : j' < ts.length) (h4 : j ≠ 4) (hk : ¬ (ts[j].kind = 5 ∧ ts[j'].kind = 7)) :
    fitsB ts j j' = (decide (j = j') && decide (j ≠ 0)) := by
  have hk4 : ¬ ts[j].kind = 4 := by
    rcases kind_of hr hb hj with ⟨_, e⟩ | ⟨_, e | e | e⟩ <;> rw [e] <;> omega
  unfold fitsB hasB isKindB
  rw [isType_yes hj, isType_yes hj', typ_at hj, typ_at hj', if_neg hk4]
  by_cases e : j = j'
  · subst e
    rw [if_pos rfl]
    rcases kind_of hr hb hj with ⟨_, e⟩ | ⟨h5, e | e | e⟩
    · rw [e]
      by_cases h0 : j = 0
      · subst h0; decide
      · have : ((j : Int) != 0) = true := by simpa using h0
        simp [this, h0]
    all_goals (rw [e]; have hj0 : j ≠ 0 := (by omega); simp [hj0])
  · rw [if_neg (by omega)]
    have : ((ts[j].kind == 5) && (ts[j'].kind == 7)) = false := by
      rw [Bool.and_eq_false_iff]
      by_cases h5 : ts[j].kind = 5
      · right; simpa using fun h7 => hk ⟨h5, h7⟩
      · left; simpa using h5
    simp only [Bool.true_and, e, decide_false, Bool.false_and]
    rw [this]; rfl
end Go.Proofs.YtjlljfeledapaaaDoor
