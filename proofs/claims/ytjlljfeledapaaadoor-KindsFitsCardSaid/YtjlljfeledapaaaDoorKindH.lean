/-
  The law's own 'table' and 'known'.
-/
import Derived.Test.YtjlljfeledapaaaDoorKindG
namespace Go.Proofs.YtjlljfeledapaaaDoor
open Go.RowKit

def tableT : List Typ := baseT ++ [⟨5, ⟨#[80]⟩, 0, [⟨⟨#[120]⟩, 1⟩], []⟩, ⟨6, ⟨#[]⟩, 5, [], []⟩, ⟨7, ⟨#[73]⟩, 0, [], []⟩]

theorem TypC.plain {w w' : World} {G G' : Nat → Prop} {x : Typ} {cs : List Value} (h : TypC w G x cs) (hf : x.fields = []) (hm : x.methods = []) : TypC w' G' x cs := by
  obtain ⟨vf, vm, e, h1, h2, hn⟩ := h
  refine ⟨vf, vm, e, ?_, ?_, hn⟩
  · rw [hf] at h1 ⊢
    obtain ⟨A, c, e1, h3, h4, _⟩ := h1
    exact ⟨A, c, e1, h3, h4, fun h => absurd rfl h⟩
  · rw [hm] at h2 ⊢
    obtain ⟨A, c, e1, h3, h4, _⟩ := h2
    exact ⟨A, c, e1, h3, h4, fun h => absurd rfl h⟩

theorem info_typ : (Tryd.prog.info? 25).map (fun i => (i.zero, i.size, i.bytes)) = some (some (.agg #[.int .i64 0, .string ⟨#[]⟩, .int .i64 0, .slice none 0 0, .slice none 0 0]), 5, 80) := by kernel_rfl

/-- The frame of an append. -/
theorem fr_grown {w w' : World} {row : Option Nat} (h : w.grownBy w' row) : Fr (fun b => row = some b) w w' := (Fr.refl _ w).grown h (fun _ hb _ => hb)

set_option maxHeartbeats 1000000 in
theorem table_any {w : World} : Calls Tryd.prog 15 #[] w (Made w tableT 8) := by
  obtain ⟨i, hi, hz, hz1, hz2⟩ := info_parts info_typ
  have I := Lib.hid (And.intro hi (And.intro hz (And.intro hz1 hz2)))
  clear hi hz hz1 hz2
  go_enter Tryd.func15, Tryd.ntmps15
  go_wp2_with fail
  refine rbase_any.mono ?_
  rintro e w1 ⟨g, c, rfl, _, hg, hown, u1⟩
  obtain ⟨v, hv⟩ : ∃ v, v = Value.slice (some ⟨g, 0, none⟩) 5 c := ⟨_, rfl⟩
  have hvb : v.ownBlock = some g := by rw [hv]; rfl
  rw [← hv] at hown ⊢
  obtain ⟨wf, hwf⟩ : ∃ wf, wf = w1.alloc (.cells #[.string ⟨#[120]⟩, .int .i64 1] 49) := ⟨_, rfl⟩
  have uf : Up w1 wf := by rw [hwf]; exact up_.alloc _
  have sf : wf.heap.size = w1.heap.size + 1 := by rw [hwf]; simp
  have hfl : FldsAt wf (fun b => w.heap.size ≤ b ∧ b ≠ g) (.slice (some ⟨w1.heap.size, 0, none⟩) 1 1) [⟨⟨#[120]⟩, 1⟩] := by
    have h := own_lit (w := w1) (base := w1.heap.size) (e := 49) (sz := 2) (C := FldC) [(⟨⟨#[120]⟩, 1⟩ : Fld)] [[.string ⟨#[120]⟩, .int .i64 1]]
      ⟨rfl, by simp, by intro j x cs hj hc; match j, hj, hc with | 0, hj, hc => simp at hj hc; subst hj hc; exact ⟨rfl, by decide⟩⟩ #[.string ⟨#[120]⟩, .int .i64 1] rfl 1 rfl (Nat.le_refl _) (by decide)
    rw [← hwf] at h
    have hgl := (hown.lt g hvb).2
    have hu := u1.size
    exact h.reads.wide (fun b hb => ⟨by omega, by omega⟩) (fun _ _ _ h => h)
  have hown' : OwnSl wf w.heap.size 25 5 (TypC wf (fun b => w.heap.size ≤ b ∧ b ≠ g)) v baseT :=
    hown.kept uf (fun _ _ h => h) (fun x hx cs hc => hc.plain (base_plain x hx).1 (base_plain x hx).2.1)
  obtain ⟨g2, c2, w2, hrun, ho2, hgr, hg2⟩ := own_append (P := Tryd.prog) wf w.heap.size 27 27 25 i _ 5 80 Tryd.underlying27 I.out.1 I.out.2.1 I.out.2.2.1 I.out.2.2.2 rfl (by decide) hown'
    [⟨5, ⟨#[80]⟩, 0, [⟨⟨#[120]⟩, 1⟩], []⟩, ⟨6, ⟨#[]⟩, 5, [], []⟩, ⟨7, ⟨#[73]⟩, 0, [], []⟩]
    [[.int .i64 5, .string ⟨#[80]⟩, .int .i64 0, .slice (some ⟨w1.heap.size, 0, none⟩) 1 1, .slice none 0 0], [.int .i64 6, .string ⟨#[]⟩, .int .i64 5, .slice none 0 0, .slice none 0 0], [.int .i64 7, .string ⟨#[73]⟩, .int .i64 0, .slice none 0 0, .slice none 0 0]]
    ⟨rfl, by simp, by
      intro j x cs hj hc
      match j, hj, hc with
      | 0, hj, hc => simp at hj hc; subst hj hc; exact ⟨_, _, rfl, hfl, nil_at, by decide⟩
      | 1, hj, hc => simp at hj hc; subst hj hc; exact ⟨_, _, rfl, nil_at, nil_at, by decide⟩
      | 2, hj, hc => simp at hj hc; subst hj hc; exact ⟨_, _, rfl, nil_at, nil_at, by decide⟩⟩
    #[.int .i64 5, .string ⟨#[80]⟩, .int .i64 0, .slice (some ⟨w1.heap.size, 0, none⟩) 1 1, .slice none 0 0, .int .i64 6, .string ⟨#[]⟩, .int .i64 5, .slice none 0 0, .slice none 0 0, .int .i64 7, .string ⟨#[73]⟩, .int .i64 0, .slice none 0 0, .slice none 0 0] rfl
    5 3 8 rfl rfl rfl (by decide) (by intro u hu; simp at hu; rcases hu with rfl | rfl | rfl | rfl | rfl | rfl | rfl | rfl | rfl | rfl | rfl | rfl | rfl <;> rfl) (by decide) (by decide) (by have := u1.size; omega)
    (fun w' => TypC w' (fun b => w.heap.size ≤ b)) (fun w' hgr x _ cs hc => hc.kept (fr_grown hgr) (fun b hb he => hb.2 (by rw [hvb] at he; simpa using he.symm)) (fun b hb => hb.1))
  have D := Lib.hid (And.intro hgr (And.intro hg2 (And.intro ho2 (And.intro hg (And.intro u1 (And.intro uf hvb))))))
  rw [sf, hwf] at hrun
  clear hown hown' hfl hgr hg2 ho2 hg u1 sf hwf uf hv hvb
  have HA := Lib.hid hrun
  clear hrun
  go_wp2_with (at_builtin; refine Lib.wpList_append_run _ rfl (.tmp 1) (.tmp 7) 27 27 rfl _ _ rfl rfl _ _ HA.out ?_)
  go_ret
  obtain ⟨hgr, hg2, ho2, hg, u1, uf, hvb⟩ := D.out
  rw [hvb] at hgr hg2
  have hs := u1.size
  have hs2 := uf.size
  refine ⟨g2, c2, rfl, rfl, ?_, ho2, ?_⟩
  · rcases hg2 with h | h
    · simp at h; omega
    · omega
  · refine Fr.trans (Up.trans u1 uf) (fr_grown hgr) (fun k hk he => ?_)
    simp at he
    omega

theorem sz_table (t : Int) : (plainOf tableT t).size ≤ 1000000 := by
  unfold plainOf
  split
  · rename_i h
    rw [Bool.and_eq_true] at h
    obtain ⟨k, hk, rfl⟩ := isType_out h.1
    rw [typ_at hk]
    have : ∀ x ∈ tableT, x.name.size ≤ 1000000 := by decide
    exact this _ (List.getElem_mem _)
  · decide

theorem f_table : fieldOf tableT 5 ⟨#[120]⟩ = some 0 := by decide
theorem n_table : nameOf tableT 6 = ⟨#[91, 93, 80]⟩ := by decide
theorem fit_46 : fitsB tableT 4 6 = true := by decide
theorem fit_41 : fitsB tableT 4 1 = false := by decide
theorem r_table : rightB tableT = true := by decide

set_option maxHeartbeats 1000000 in
theorem lknown_any {w : World} : Calls Tryd.prog 7 #[] w fun e w' => Up w w' ∧ e = .returned (.bool true) := by
  go_enter Tryd.func7, Tryd.ntmps7
  go_wp2_with fail
  refine table_any.mono ?_
  rintro e w1 ⟨g, c, rfl, _, _, hown, u1⟩
  have U1 := Lib.hid u1
  have T := Lib.hid (Made.reads hown)
  clear u1 hown
  go_wp2_with fail
  refine (field_any (ts := tableT) T.out 5 ⟨#[120]⟩).mono ?_
  rintro e w2 ⟨hv, rfl⟩
  have V2 := Lib.hid hv
  clear hv
  rw [f_table, found_some rfl]
  go_wp2_with fail
  refine (name_any (ts := tableT) (TypsP.kept T.out V2.out (fun _ _ h => h) (fun _ h => h)) 6 sz_table).mono ?_
  rintro e w3 ⟨hv, rfl⟩
  have V3 := Lib.hid (Up.trans V2.out hv)
  clear hv
  rw [n_table]
  go_wp2_with fail
  refine (fits_any (ts := tableT) (TypsP.kept T.out V3.out (fun _ _ h => h) (fun _ h => h)) 4 6).mono ?_
  rintro e w4 ⟨hv, rfl⟩
  have V4 := Lib.hid (Up.trans V3.out hv)
  clear hv
  rw [fit_46]
  go_wp2_with fail
  refine (fits_any (ts := tableT) (TypsP.kept T.out V4.out (fun _ _ h => h) (fun _ h => h)) 4 1).mono ?_
  rintro e w5 ⟨hv, rfl⟩
  have V5 := Lib.hid (Up.trans V4.out hv)
  clear hv
  rw [fit_41]
  go_wp2_with fail
  refine (right_any (ts := tableT) (TypsP.kept T.out V5.out (fun _ _ h => h) (fun _ h => h))).mono ?_
  rintro e w6 ⟨hv, rfl⟩
  have V6 := Lib.hid (Up.trans V5.out hv)
  clear hv
  rw [r_table]
  go_wp2_with fail
  go_ret
  exact ⟨Up.trans U1.out V6.out, rfl⟩
end Go.Proofs.YtjlljfeledapaaaDoor
