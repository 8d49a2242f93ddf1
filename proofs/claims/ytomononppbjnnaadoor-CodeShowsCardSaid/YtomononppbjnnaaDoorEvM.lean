/-
  A run that is reckoned over blocks with names of its own: the reckoning is right: no function of a program is named here.
-/
import Derived.Test.YtomononppbjnnaaDoorEvL
namespace Go.Proofs.YtomononppbjnnaaDoor
open Go.RowKit
noncomputable section

/-- What a reckoning leaves. -/
structure Left (h h' : Hs) (φ : Fo) (t : List Ac) : Prop where
  val : Valid h.den t
  app : apps h.den t = h'.den
  inv : h'.Inv
  le : h.nx ≤ h'.nx
  all : All h.nx h'.nx φ t
theorem Left.refl {h : Hs} (hi : h.Inv) (φ : Fo) : Left h h φ [] := ⟨trivial, rfl, hi, Nat.le_refl _, All.nil _ _ _⟩
theorem All.lower {lo lo' hi : Nat} {φ : Fo} {t : List Ac} (h : All lo' hi φ t) (hl : lo ≤ lo') : All lo hi (φ.cut lo) t := fun a ha =>
  ⟨fun b hb => ⟨((h a ha).1 b hb).1, fun hlt => told_cut (((h a ha).1 b hb).2 (by omega)) (fun b' hb' => by rw [hb] at hb'; cases hb'; exact hlt)⟩, fun b hb => ⟨Nat.le_trans hl ((h a ha).2 b hb).1, ((h a ha).2 b hb).2⟩⟩
theorem Left.trans {h h1 h2 : Hs} {φ ψ : Fo} {t u : List Ac} (k : Left h h1 φ t) (l : Left h1 h2 ψ u) : Left h h2 (φ.join (ψ.cut h.nx)) (t ++ u) :=
  ⟨Valid.append.2 ⟨k.val, by rw [k.app]; exact l.val⟩, by rw [apps_append, k.app, l.app], l.inv, Nat.le_trans k.le l.le,
    All.append (k.all.more l.le (join_left _ _)) ((l.all.lower k.le).more (Nat.le_refl _) (join_right _ _))⟩

def CSound (C : CallX) (K : CallK) : Prop := ∀ f l h v h' φ, h.Inv → C f l h = some (v, h', φ) → ∃ t, K f l t v ∧ Left h h' φ t

section
variable {P : Program} {ng : Nat} {hN : NamesOk P} {K : CallK} {C : CallX}

theorem stepX_sound (hC : CSound C K) {ops : Array Oper} {i : Nat} {o : Oper} {e : En} {h h' : Hs} {v : Value} {φ : Fo} (ho : ops[i]? = some o) (hok : ∀ x ∈ o.op.operands, opdOk ng x = true) (hi : h.Inv)
    (hs : stepX (opF P) C ops o e h = some (v, h', φ)) : ∃ t, StepR (opA hN ng) K ops i e.act t v ∧ Left h h' φ t := by
  unfold stepX at hs
  unfold StepR
  rw [ho]
  simp only [wantX_eq]
  cases hw : wantX ops e o with
  | false =>
    rw [hw] at hs
    cases hs
    exact ⟨[], by simp, Left.refl hi _⟩
  | true =>
    rw [hw] at hs
    simp only [if_true]
    cases hr : runP h.nx (opF P o e.eval) h [] with
    | none => rw [hr] at hs; cases hs
    | some q =>
      obtain ⟨r, h1, φ1⟩ := q
      obtain ⟨t1, p1, p2, p3, p4, p5, p6, p7⟩ := runP_sound hi (Nat.le_refl _) hr
      rw [hr] at hs
      have he : (opA hN ng).f o e.act.eval = opF P o e.eval := by rw [En.eval_eq]; rfl
      cases r with
      | val u =>
        cases hs
        exact ⟨t1, ⟨hok, t1, .val v, by rw [he]; exact p1, rfl, rfl⟩, ⟨p2, p3, p4, p5, p7⟩⟩
      | skip =>
        cases hs
        exact ⟨t1, ⟨hok, t1, .skip, by rw [he]; exact p1, rfl, rfl⟩, ⟨p2, p3, p4, p5, p7⟩⟩
      | enter f l =>
        simp only at hs
        cases hc : C f l h1 with
        | none => rw [hc] at hs; cases hs
        | some q =>
          obtain ⟨v2, h2, ψ⟩ := q
          rw [hc] at hs
          cases hs
          obtain ⟨t2, k1, k2⟩ := hC f l h1 v h' ψ p4 hc
          exact ⟨t1 ++ t2, ⟨hok, t1, .enter f l, by rw [he]; exact p1, t2, rfl, k1⟩, Left.trans ⟨p2, p3, p4, p5, p7⟩ k2⟩

inductive RecsOk : Nat → List Stp → List Rec → Nat → Prop
  | nil {lo hi : Nat} (h : lo ≤ hi) : RecsOk lo [] [] hi
  | cons {lo hi : Nat} {s : Stp} {r : Rec} {l : List Stp} {rs : List Rec} (h1 : lo ≤ r.a) (h2 : r.a ≤ r.b) (hi_ : s.i = r.i) (ha : All r.a r.b r.φ s.t) (h : RecsOk r.b l rs hi) : RecsOk lo (s :: l) (r :: rs) hi
theorem RecsOk.le {lo hi : Nat} {l : List Stp} {rs : List Rec} (h : RecsOk lo l rs hi) : lo ≤ hi := by
  induction h with
  | nil h => exact h
  | cons h1 h2 _ _ _ ih => omega
theorem RecsOk.lower {lo lo' hi : Nat} {l : List Stp} {rs : List Rec} (h : RecsOk lo l rs hi) (hl : lo' ≤ lo) : RecsOk lo' l rs hi := by
  cases h with
  | nil h => exact .nil (Nat.le_trans hl h)
  | cons h1 h2 h3 h4 h5 => exact .cons (Nat.le_trans hl h1) h2 h3 h4 h5

theorem foots_all {lo lo0 hi : Nat} {l : List Stp} {rs : List Rec} (h : RecsOk lo l rs hi) (hl : lo0 ≤ lo) : All lo0 hi (foots rs) (acts l) := by
  induction h with
  | nil h => exact All.nil _ _ _
  | cons h1 h2 h3 h4 h5 ih =>
    have h6 := h5.le
    refine All.append (fun a ha => ?_) ((ih (by omega)).more (Nat.le_refl _) (join_right _ _))
    obtain ⟨q1, q2⟩ := h4 a ha
    exact ⟨fun b hb => ⟨Nat.lt_of_lt_of_le (q1 b hb).1 h6, fun hlt => join_left _ _ a ((q1 b hb).2 (by omega))⟩, fun b hb => ⟨Nat.le_trans (by omega) (q2 b hb).1, Nat.lt_of_lt_of_le (q2 b hb).2 h6⟩⟩

theorem regX_sound (hC : CSound C K) {ops : Array Oper} (hok : opdsOk ng ops = true) : ∀ (l : List Oper) (i : Nat) (e e' : En) (h h' : Hs) (rs : List Rec), l = ops.toList.drop i → i ≤ ops.size → e.n + 1 < 2 ^ 30 → h.Inv → regX (opF P) C ops l i e h = some (e', h', rs) →
    ∃ st : List Stp, st.map (·.i) = List.range' i l.length ∧ SeqR (opA hN ng) K ops st e.act ∧ fin ops st e.act = e'.act ∧ e'.n = e.n ∧ Valid h.den (acts st) ∧ apps h.den (acts st) = h'.den ∧ h'.Inv ∧ RecsOk h.nx st rs h'.nx
  | [], i, e, e', h, h', rs, hl, _, _, hi, hr => by
    cases hr
    exact ⟨[], rfl, trivial, rfl, rfl, trivial, rfl, hi, .nil (Nat.le_refl _)⟩
  | o :: l, i, e, e', h, h', rs, hl, hle, hn, hi, hr => by
    simp only [regX] at hr
    have hoi : ops[i]? = some o := by
      rw [← Array.getElem?_toList]
      have := congrArg (fun l => l[0]?) hl
      simpa using this.symm
    have hlt := (Array.getElem?_eq_some_iff.1 hoi).1
    have hl2 : l = ops.toList.drop (i + 1) := by
      have := congrArg List.tail hl
      simpa [List.tail_drop] using this
    cases hs : stepX (opF P) C ops o e h with
    | none => rw [hs] at hr; cases hr
    | some q =>
      obtain ⟨v, h1, φ⟩ := q
      rw [hs] at hr
      simp only at hr
      cases hr2 : regX (opF P) C ops l (i + 1) (e.put o.dst v) h1 with
      | none => rw [hr2] at hr; cases hr
      | some q =>
        obtain ⟨e2, h2, rs2⟩ := q
        rw [hr2] at hr
        cases hr
        have hoo : ∀ x ∈ o.op.operands, opdOk ng x = true := by
          have := List.all_eq_true.1 hok o (Array.mem_toList_iff.2 (Array.mem_of_getElem? hoi))
          exact fun x hx => List.all_eq_true.1 this x (Array.mem_toList_iff.2 hx)
        obtain ⟨t, k1, k2⟩ := stepX_sound hC hoi hoo hi hs
        have hpn : (e.put o.dst v).n = e.n := by
          unfold En.put
          cases o.dst with
          | none => rfl
          | some d => simp only; split <;> rfl
        obtain ⟨st, q1, q2, q3, q4, q5, q6, q7, q8⟩ := regX_sound hC hok l (i + 1) (e.put o.dst v) e' h1 h' rs2 hl2 (by omega) (by rw [hpn]; exact hn) k2.inv hr2
        have hd : dstOf ops i = o.dst := by simp [dstOf, hoi]
        rw [En.put_eq hn] at q2 q3
        refine ⟨⟨i, t, v⟩ :: st, by simp [q1, List.range'_succ], ⟨k1, by rw [hd]; exact q2⟩, by simp only [fin]; rw [hd]; exact q3, by rw [q4, hpn], Valid.append.2 ⟨k2.val, by rw [k2.app]; exact q5⟩, by simp only [acts]; rw [apps_append, k2.app, q6], q7, .cons (Nat.le_refl _) k2.le rfl k2.all q8⟩

theorem ancGo_sound {ops : Array Oper} : ∀ (l : List Oper) (acc : List Nat), l = ops.toList.drop acc.length → (∀ j i, (acc.getD j 0).testBit i = true → Anc ops i j) → ∀ j i, ((ancGo l acc).getD j 0).testBit i = true → Anc ops i j
  | [], acc, _, h => h
  | o :: l, acc, hl, h => by
    have hoi : ops[acc.length]? = some o := by
      rw [← Array.getElem?_toList]
      have := congrArg (fun l => l[0]?) hl
      simpa using this.symm
    simp only [ancGo]
    refine ancGo_sound l _ (by
      have := congrArg List.tail hl
      simpa [List.tail_drop] using this) fun j i hb => ?_
    rw [List.getD_eq_getElem?_getD] at hb
    by_cases hj : j < acc.length
    · rw [List.getElem?_append_left hj, ← List.getD_eq_getElem?_getD] at hb
      exact h j i hb
    · by_cases hj2 : j = acc.length
      · subst hj2
        rw [List.getElem?_append_right (Nat.le_refl _), Nat.sub_self] at hb
        simp only [List.getElem?_cons_zero, Option.getD_some] at hb
        have key : ∀ (gs : List Edge) (s : Nat), (∀ g ∈ gs, g ∈ o.after) → (∀ i, s.testBit i = true → Anc ops i acc.length) → ∀ i, (gs.foldl (fun s g => match Region.binds .any g with
            | true => Nat.lor (Nat.lor s (Nat.shiftLeft 1 g.on)) (acc.getD g.on 0)
            | false => s) s).testBit i = true → Anc ops i acc.length := by
          intro gs
          induction gs with
          | nil => intro s _ hs i hi; exact hs i hi
          | cons g gs ih =>
            intro s hm hs i hi
            rw [List.foldl_cons] at hi
            refine ih _ (fun x hx => hm x (List.mem_cons_of_mem _ hx)) (fun i hi => ?_) i hi
            cases hb : Region.binds .any g with
            | false => rw [hb] at hi; exact hs i hi
            | true =>
              rw [hb] at hi
              simp only at hi
              have e1 : (Nat.lor (Nat.lor s (Nat.shiftLeft 1 g.on)) (acc.getD g.on 0)).testBit i = ((s.testBit i || (1 <<< g.on).testBit i) || (acc.getD g.on 0).testBit i) := by
                rw [show Nat.lor (Nat.lor s (Nat.shiftLeft 1 g.on)) (acc.getD g.on 0) = (s ||| 1 <<< g.on) ||| acc.getD g.on 0 from rfl, Nat.testBit_or, Nat.testBit_or]
              rw [e1, Bool.or_eq_true, Bool.or_eq_true] at hi
              have hedge : Anc ops g.on acc.length := .edge hoi (hm g List.mem_cons_self) hb rfl
              rcases hi with (hi | hi) | hi
              · exact hs i hi
              · have : i = g.on := by
                  rw [Nat.one_shiftLeft, Nat.testBit_two_pow] at hi
                  exact (of_decide_eq_true hi).symm
                rw [this]; exact hedge
              · exact .more (h g.on i hi) hedge
        exact key o.after.toList 0 (fun g hg => Array.mem_toList_iff.1 hg) (fun i hi => by simp at hi) i hb
      · rw [List.getElem?_eq_none (by simp; omega)] at hb
        simp at hb
theorem ancs_sound {ops : Array Oper} {i j : Nat} (h : ((ancs ops).getD j 0).testBit i = true) : Anc ops i j :=
  ancGo_sound ops.toList [] rfl (fun j i hb => by simp at hb) j i h

theorem regOk_backs {ops : Array Oper} (h : regOk ops = true) : Backs ops := by
  unfold regOk at h
  rw [Bool.and_eq_true] at h
  intro j o g ho hg hb
  have h1 := List.all_eq_true.1 h.1 (o, j) (by
    rw [List.mem_zipIdx_iff_getElem?]; simpa using ho)
  have h2 := List.all_eq_true.1 h1 g (Array.mem_toList_iff.2 hg)
  rw [hb] at h2
  simpa [Nat.blt_eq] using h2
theorem regOk_apart {ops : Array Oper} (h : regOk ops = true) {i j : Nat} {x y : Oper} (hx : ops[i]? = some x) (hy : ops[j]? = some y) (hij : i < j) (ha : ((ancs ops).getD j 0).testBit i = false) : x.apart ops y = true := by
  unfold regOk at h
  rw [Bool.and_eq_true] at h
  have h1 := List.all_eq_true.1 h.2 (x, i) (by rw [List.mem_zipIdx_iff_getElem?]; simpa using hx)
  have h2 := List.all_eq_true.1 h1 (y, j) (by rw [List.mem_zipIdx_iff_getElem?]; simpa using hy)
  simp only [ha, Bool.false_or, Bool.or_eq_true, Bool.not_eq_true'] at h2
  rcases h2 with h2 | h2
  · rw [show Nat.blt i j = true by simpa [Nat.blt_eq] using hij] at h2; cases h2
  · exact h2

theorem pairX_sound {ops : Array Oper} (hreg : regOk ops = true) {s : Stp} {r : Rec} (hs : s.i = r.i) (hal : All r.a r.b r.φ s.t) (hox : ∃ x, ops[s.i]? = some x) : ∀ {lo hi : Nat} {l : List Stp} {rs : List Rec}, RecsOk lo l rs hi → r.b ≤ lo → (∀ u ∈ l, s.i < u.i ∧ ∃ y, ops[u.i]? = some y) →
    pairX (ancs ops) r rs = true → ∀ u ∈ l, Anc ops s.i u.i ∨ StpApart ops s u
  | _, _, [], [], _, _, _, _, u, hu => by cases hu
  | lo, hi, s2 :: l, r2 :: rs, h, hle, hsort, hp, u, hu => by
    cases h with
    | cons h1 h2 h3 h4 h5 =>
      simp only [pairX] at hp
      have hrest : pairX (ancs ops) r rs = true := by
        split at hp
        · exact hp
        · split at hp
          · exact hp
          · cases hp
      rcases List.mem_cons.1 hu with rfl | hu
      · cases ht : ((ancs ops).getD r2.i 0).testBit r.i with
        | true => left; rw [hs, h3]; exact ancs_sound ht
        | false =>
          right
          rw [ht] at hp
          simp only at hp
          split at hp
          · rename_i c1 c2
            obtain ⟨x, hx⟩ := hox
            obtain ⟨hlt, y, hy⟩ := hsort u List.mem_cons_self
            exact ⟨apart_of hal h4 (by omega) c1 c2, x, y, hx, hy, regOk_apart hreg hx hy hlt (by rw [h3, hs]; exact ht)⟩
          · cases hp
      · exact pairX_sound hreg hs hal hox h5 (by omega) (fun u hu => hsort u (List.mem_cons_of_mem _ hu)) hrest u hu

theorem pairsX_sound {ops : Array Oper} (hreg : regOk ops = true) : ∀ {lo hi : Nat} {l : List Stp} {rs : List Rec}, RecsOk lo l rs hi → (l.map (·.i)).Pairwise (· < ·) → (∀ u ∈ l, ∃ y, ops[u.i]? = some y) → pairsX (ancs ops) rs = true → PairsOk ops l
  | _, _, [], [], _, _, _, _ => trivial
  | lo, hi, s :: l, r :: rs, h, hsort, hin, hp => by
    cases h with
    | cons h1 h2 h3 h4 h5 =>
      simp only [pairsX] at hp
      split at hp
      · rename_i hq
        rw [List.map_cons, List.pairwise_cons] at hsort
        exact ⟨pairX_sound hreg h3 h4 (hin s List.mem_cons_self) h5 (Nat.le_refl _) (fun u hu => ⟨hsort.1 u.i (List.mem_map.2 ⟨u, hu, rfl⟩), hin u (List.mem_cons_of_mem _ hu)⟩) hq,
          pairsX_sound hreg h5 hsort.2 (fun u hu => hin u (List.mem_cons_of_mem _ hu)) hp⟩
      · cases hp

theorem Xx.ne {x : Xx} (h : x ≠ .normal) : x.out ≠ .normal := by cases x <;> simp_all [Xx.out]

theorem codeX_sound (hC : CSound C K) : ∀ (n : Nat) {c : Code} {e e' : En} {h h' : Hs} {x : Xx} {φ : Fo}, e.n + 1 < 2 ^ 30 → h.Inv → codeX (opF P) ng C n c e h = some (x, e', h', φ) →
    ∃ t, CodeR (opA hN ng) K c e.act t x.out e'.act ∧ Left h h' φ t ∧ e'.n = e.n
  | 0, c, e, e', h, h', x, φ, _, _, hr => by cases hr
  | n + 1, c, e, e', h, h', x, φ, hn, hi, hr => by
    unfold codeX at hr
    split at hr
    · cases hr; exact ⟨[], .skip _, Left.refl hi _, rfl⟩
    · cases hr; exact ⟨[], .label _ _, Left.refl hi _, rfl⟩
    · cases hr; exact ⟨[], .ret _, Left.refl hi _, rfl⟩
    · cases hr; exact ⟨[], .exit _ _, Left.refl hi _, rfl⟩
    · rename_i a b
      split at hr
      · rename_i e1 h1 φ1 ha
        obtain ⟨t1, k1, k2, k3⟩ := codeX_sound hC n hn hi ha
        split at hr
        · rename_i x2 e2 h2 ψ hb
          cases hr
          obtain ⟨t2, q1, q2, q3⟩ := codeX_sound hC n (by rw [k3]; exact hn) k2.inv hb
          exact ⟨t1 ++ t2, .seq k1 q1, k2.trans q2, by rw [q3, k3]⟩
        · cases hr
      · rename_i hne
        obtain ⟨t1, k1, k2, k3⟩ := codeX_sound hC n hn hi hr
        exact ⟨t1, .seqx k1 (Xx.ne fun e => hne e' h' φ (by rw [← e]; exact hr)), k2, k3⟩
    · rename_i c a b
      split at hr
      · rename_i ho hb
        obtain ⟨t1, k1, k2, k3⟩ := codeX_sound hC n hn hi hr
        exact ⟨t1, .cond (b := true) ho (by rw [En.eval_eq]; exact hb) k1, k2, k3⟩
      · rename_i ho hb
        obtain ⟨t1, k1, k2, k3⟩ := codeX_sound hC n hn hi hr
        exact ⟨t1, .cond (b := false) ho (by rw [En.eval_eq]; exact hb) k1, k2, k3⟩
      · cases hr
    · rename_i id c
      split at hr
      · rename_i k e1 h1 φ1 ha
        obtain ⟨t1, k1, k2, k3⟩ := codeX_sound hC n hn hi ha
        split at hr
        · rename_i hk
          cases hr
          obtain rfl := Nat.eq_of_beq_eq_true hk
          exact ⟨t1, .hit k1, k2, k3⟩
        · rename_i hk
          cases hr
          refine ⟨t1, .block k1 (fun e => ?_), k2, k3⟩
          simp only [Xx.out, Exit.exit.injEq] at e
          rw [e, Nat.beq_refl] at hk
          cases hk
      · rename_i hne
        obtain ⟨t1, k1, k2, k3⟩ := codeX_sound hC n hn hi hr
        refine ⟨t1, .block k1 (fun e => ?_), k2, k3⟩
        cases x with
        | exit k => exact hne k e' h' φ hr
        | _ => cases e
    · rename_i c
      split at hr
      · rename_i e1 h1 φ1 ha
        obtain ⟨t1, k1, k2, k3⟩ := codeX_sound hC n hn hi ha
        split at hr
        · rename_i x2 e2 h2 ψ hb
          cases hr
          obtain ⟨t2, q1, q2, q3⟩ := codeX_sound hC n (by rw [k3]; exact hn) k2.inv hb
          exact ⟨t1 ++ t2, .loop k1 q1, k2.trans q2, by rw [q3, k3]⟩
        · cases hr
      · rename_i hne
        obtain ⟨t1, k1, k2, k3⟩ := codeX_sound hC n hn hi hr
        exact ⟨t1, .loopx k1 (Xx.ne fun e => hne e' h' φ (by rw [← e]; exact hr)), k2, k3⟩
    · rename_i id ops draw
      split at hr
      case h_2 => cases hr
      rename_i hok
      split at hr
      case h_2 => cases hr
      rename_i e1 h1 rs hreg
      obtain ⟨st, q1, q2, q3, q4, q5, q6, q7, q8⟩ := regX_sound (hN := hN) hC hok ops.toList 0 e e1 h h1 rs rfl (Nat.zero_le _) hn hi hreg
      have hmap : st.map (·.i) = List.range ops.size := by rw [q1, List.range_eq_range']; simp
      have hL : Left h h1 ((foots rs).cut h.nx) (acts st) := ⟨q5, q6, q7, q8.le, (foots_all q8 (Nat.le_refl _)).lower (Nat.le_refl _)⟩
      split at hr
      · cases hr
        exact ⟨acts st, by rw [← q3]; exact .reg hmap q2, hL, q4⟩
      · split at hr
        · rename_i hro hpx
          cases hr
          have hp : PairsOk ops st := pairsX_sound hro q8 (by rw [hmap]; exact List.pairwise_lt_range) (fun u hu => by
            have : u.i ∈ st.map (·.i) := List.mem_map.2 ⟨u, hu, rfl⟩
            rw [hmap, List.mem_range] at this
            exact ⟨_, Array.getElem?_eq_getElem this⟩) hpx
          exact ⟨acts st, by rw [← q3]; exact .regd hmap (regOk_backs hro) hp q2, hL, q4⟩
        · cases hr
    · cases hr

theorem row_act {l : List Value} {n : Nat} (hn : n + l.length + 3 < lim) : (⟨l.length + (n - l.length), Tr.row .e 0 l⟩ : En).act = { tmps := ⟨l⟩ ++ Array.replicate (n - l.length) undef, defers := [] } := by
  unfold lim at hn
  unfold En.act
  congr 1
  apply Array.toList_inj.1
  simp only [Array.toList_append, Array.toList_replicate]
  refine List.ext_getElem? fun i => ?_
  rw [List.getElem?_map]
  have hblt : i < l.length + (n - l.length) → Nat.blt i (l.length + (n - l.length)) = true := fun h => by simpa [Nat.blt_eq] using h
  by_cases h1 : i < l.length
  · rw [List.getElem?_append_left h1, List.getElem?_range (by omega)]
    simp only [Option.map_some]
    unfold En.get
    simp only
    rw [hblt (by omega), Tr.get_row l .e 0 i (by omega), if_neg (Nat.not_lt_zero _), if_pos (by omega), Nat.sub_zero, List.getElem?_eq_getElem h1]
  · rw [List.getElem?_append_right (by omega)]
    by_cases h2 : i < l.length + (n - l.length)
    · rw [List.getElem?_range h2, List.getElem?_replicate, if_pos (by omega)]
      simp only [Option.map_some]
      unfold En.get
      simp only
      rw [hblt h2, Tr.get_row l .e 0 i (by omega), if_neg (Nat.not_lt_zero _), if_neg (by omega), Tr.get_e]
    · rw [List.getElem?_eq_none (by simpa using h2), List.getElem?_eq_none (by simp; omega)]
      rfl

theorem callX_sound (fuel : Nat) : ∀ d, CSound (callX (opF P) (fun f => P.funcs[f]?) (fun tm l => resP P tm l [] fun l => .val (packed l)) ng fuel d) (CallR (opA hN ng) d)
  | 0 => fun f l h v h' φ _ e => by cases e
  | d + 1 => by
    intro f l h v h' φ hi hr
    simp only [callX] at hr
    cases hf : P.funcs[f]? with
    | none => rw [hf] at hr; cases hr
    | some fn =>
      rw [hf] at hr
      simp only at hr
      split at hr
      case h_2 => cases hr
      rename_i c hb hlt
      have hlt : fn.ntmps + l.length + 3 < lim := by simpa [Nat.blt_eq] using hlt
      have hact := row_act hlt
      unfold lim at hlt
      have hn : (⟨l.length + (fn.ntmps - l.length), Tr.row .e 0 l⟩ : En).n + 1 < 2 ^ 30 := by
        show l.length + (fn.ntmps - l.length) + 1 < 2 ^ 30
        omega
      have main : ∀ (x : Xx) (e : En) (h1 : Hs) (φ1 : Fo), (x = .normal ∨ x = .ret) → codeX (opF P) ng (callX (opF P) (fun f => P.funcs[f]?) (fun tm l => resP P tm l [] fun l => .val (packed l)) ng fuel d) fuel c ⟨l.length + (fn.ntmps - l.length), Tr.row .e 0 l⟩ h = some (x, e, h1, φ1) →
          (match runP h.nx (resP P e.get fn.results.toList [] fun l => .val (packed l)) h1 [] with
          | some (.val v, h'', ψ) => some (v, h'', φ1.join ψ)
          | _ => none) = some (v, h', φ) → ∃ t, CallR (opA hN ng) (d + 1) f l t v ∧ Left h h' φ t := by
        intro x e h1 φ1 hx hc hres
        obtain ⟨t1, k1, k2, _⟩ := codeX_sound (hN := hN) (callX_sound fuel d) fuel hn hi hc
        rw [hact] at k1
        split at hres
        · rename_i v2 h2 ψ hrun
          cases hres
          obtain ⟨t2, p1, p2, p3, p4, p5, p6, p7⟩ := runP_sound k2.inv k2.le hrun
          have hget : (fun t => e.act.tmps.getD t undef) = e.get := by
            funext t
            have := congrFun (En.eval_eq e) (.tmp t)
            exact this
          refine ⟨t1 ++ t2, ⟨fn, c, x.out, t1, t2, e.act, hf, hb, k1, by rcases hx with rfl | rfl; exact .inl rfl; exact .inr rfl, by rw [hget]; exact p1, rfl⟩, ?_⟩
          exact ⟨Valid.append.2 ⟨k2.val, by rw [k2.app]; exact p2⟩, by rw [apps_append, k2.app, p3], p4, Nat.le_trans k2.le p5, All.append (k2.all.more p5 (join_left _ _)) (p7.more (Nat.le_refl _) (join_right _ _))⟩
        · cases hres
      split at hr
      · rename_i e h1 φ1 hc; exact main .normal e h1 φ1 (.inl rfl) hc hr
      · rename_i e h1 φ1 hc; exact main .ret e h1 φ1 (.inr rfl) hc hr
      · cases hr
end
end
end Go.Proofs.YtomononppbjnnaaDoor
