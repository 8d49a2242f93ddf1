/-
  known() of the law, reckoned: it answers true; the tables that are read.
-/
import Derived.Test.YtjeplkbdgphfoaaDoorEvY
import Derived.Test.YtjeplkbdgphfoaaDoorWdStr
import Derived.Test.YtjeplkbdgphfoaaDoorRows
namespace Go.Proofs.YtjeplkbdgphfoaaDoor
namespace knownE
open Go.RowKit
def L0 : List Int := [0, 1, 28, 2, 29, 14, 24, 3, 30, 22, 20, 15, 25, 17, 4, 8, 31, 27, 13, 23, 21, 19, 16, 7, 26, 12, 18, 6, 11, 5, 10, 9]
def L1 : List Int := [0, 1, 56, 2, 57, 49, 28, 3, 61, 58, 42, 50, 38, 29, 17, 4, 62, 47, 59, 36, 45, 43, 51, 22, 53, 39, 33, 30, 24, 18, 12, 5, 63, 55, 48, 27, 60, 41, 37, 16, 46, 35, 44, 21, 52, 32, 23, 11, 54, 26, 40, 15, 34, 20, 31, 10, 25, 14, 19, 9, 13, 8, 7, 6]
def L2 : List Int := [1, 10, 100, 1000, 10000, 100000, 1000000, 10000000, 100000000, 1000000000, 10000000000, 100000000000, 1000000000000, 10000000000000, 100000000000000, 1000000000000000, 10000000000000000, 100000000000000000, 1000000000000000000, 10000000000000000000]
def ks : List (Nat × List Value) := [(1, L0.map fun b => .int .u8 b), (2, L1.map fun b => .int .u8 b), (0, L2.map fun b => .int .u64 b)]
set_option maxRecDepth 1000000 in
theorem run : isTrue (callHZ Tryd.prog rtab 3 4000 ks [] 3000 3 9 [] (start 3 ks) ⟨0, 0⟩ Res.ok) = true := by decide +kernel
theorem laid_ks {W : World} {l : List (String × DataW Unit)} (h : laidMet Tryd.prog l W) (h0 : ("math/bits.deBruijn32tab", Rows.laid_math_bits_deBruijn32tab) ∈ l) (h1 : ("math/bits.deBruijn64tab", Rows.laid_math_bits_deBruijn64tab) ∈ l) (h2 : ("internal/strconv.uint64pow10", Rows.laid_internal_strconv_uint64pow10) ∈ l) : ∀ x ∈ ks, W.rangeAt x.1 0 x.2 := by
  intro x hx
  rcases List.mem_cons.1 hx with rfl | hx
  · exact laid_rangeI (k := .u8) (L := L0) h h0 (g := 1) (t := 117) (e := 5) (m := 32) (by kernel_rfl) (by kernel_rfl) (by kernel_rfl) (by kernel_rfl) (by kernel_rfl) (by kernel_rfl)
  rcases List.mem_cons.1 hx with rfl | hx
  · exact laid_rangeI (k := .u8) (L := L1) h h1 (g := 2) (t := 118) (e := 5) (m := 64) (by kernel_rfl) (by kernel_rfl) (by kernel_rfl) (by kernel_rfl) (by kernel_rfl) (by kernel_rfl)
  rcases List.mem_cons.1 hx with rfl | hx
  · exact laid_rangeI (k := .u64) (L := L2) h h2 (g := 0) (t := 112) (e := 38) (m := 20) (by kernel_rfl) (by kernel_rfl) (by kernel_rfl) (by kernel_rfl) (by kernel_rfl) (by kernel_rfl)
  cases hx
theorem any {W : World} (hw : ∀ x ∈ ks, W.rangeAt x.1 0 x.2) : Calls Tryd.prog 9 #[] W fun e W' => e = .returned (.bool true) ∧ Up W W' :=
  evh_run (ng := 3) (hs := []) rtab_ok names_ok (by kernel_rfl) (by decide) (ksB_spec (by decide +kernel)) (fun _ h => by cases h) hw VL.nil run
end knownE
open Go.RowKit
theorem tab_of_laid {W : World} {l : List (String × DataW Unit)} (h : laidMet Tryd.prog l W) (hm : ("internal/strconv.uint64pow10", Rows.laid_internal_strconv_uint64pow10) ∈ l) : Tab W := by
  obtain ⟨g', t', cs, fuel, p, h1, h2, h3, h4⟩ := laid_varZ h hm
  obtain rfl : g' = 0 := Option.some.inj (h1.symm.trans (by kernel_rfl))
  obtain rfl : t' = 112 := Option.some.inj (h2.symm.trans (by kernel_rfl))
  refine ⟨?_⟩
  unfold Lib.TabIs
  rw [h3]
  have e := Lib.cells_of_tab (k := .u64) (zs := Lib.pow10Tab) (n := 20) Tryd.underlying112 Tryd.underlying38 (by kernel_rfl) (by kernel_rfl) h4
  rw [← e]

/-- The tables that are read. -/
structure Lk (W : World) : Prop where
  ks : ∀ x ∈ knownE.ks, W.rangeAt x.1 0 x.2
  tab : Tab W
theorem Lk.kept {w w' : World} (h : Lk w) (u : Up w w') : Lk w' :=
  ⟨fun x hx j v hj => (u.cell (p := ⟨x.1, 0 + j, none⟩) (World.block_lt_of_cell? w ⟨x.1, 0 + j, none⟩ (h.ks x hx j v hj)) (fun h => h)).trans (h.ks x hx j v hj), h.tab.kept u⟩
theorem Lk.below {w w' : World} (h : Lk w) (u : Below w.heap.size w w') : Lk w' :=
  ⟨fun x hx j v hj => (u.cell (p := ⟨x.1, 0 + j, none⟩) (World.block_lt_of_cell? w ⟨x.1, 0 + j, none⟩ (h.ks x hx j v hj))).trans (h.ks x hx j v hj), ⟨Lib.tabBelow_of_tabIs h.tab.h w' u⟩⟩
theorem known_any {w : World} (h : Lk w) : Calls Tryd.prog 9 #[] w fun e w' => e = .returned (.bool true) ∧ Up w w' := knownE.any h.ks
theorem lk_of_laid {W : World} {l : List (String × DataW Unit)} (h : laidMet Tryd.prog l W) (h0 : ("math/bits.deBruijn32tab", Rows.laid_math_bits_deBruijn32tab) ∈ l) (h1 : ("math/bits.deBruijn64tab", Rows.laid_math_bits_deBruijn64tab) ∈ l) (h2 : ("internal/strconv.uint64pow10", Rows.laid_internal_strconv_uint64pow10) ∈ l) : Lk W := ⟨knownE.laid_ks h h0 h1 h2, tab_of_laid h h2⟩
end Go.Proofs.YtjeplkbdgphfoaaDoor
