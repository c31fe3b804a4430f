
/- The contract of strings.Fields for ASCII text, and the two tables of words as a text that is split. -/
import Derived.Test.YtplbbejdnahibaaDoorFxM
import Derived.Test.YtplbbejdnahibaaDoorHfR
import Derived.Shelf.Strings.Fields
import Derived.Lib.LaidTab
namespace Go.Proofs.YtplbbejdnahibaaDoor.Fx
open Go.Shelf Go.RowKit Go.Lib Go.Proofs.YtplbbejdnahibaaDoor.Oct Go.Proofs.YtplbbejdnahibaaDoor.Bit Go.Proofs.YtplbbejdnahibaaDoor.Hf Go.Proofs.YtplbbejdnahibaaDoor.Inf
set_option linter.unusedVariables false
set_option linter.unusedSimpArgs false
set_option maxRecDepth 100000

/-- the numbers of the library's texts, here -/
def renF : Ren := ⟨fun n => if n = 157 then 30 else if n = 199 then 48 else if n = 229 then 47 else if n = 261 then 59 else if n = 311 then 68 else if n = 312 then 69 else n,
  fun n => if n = 3 then 3 else if n = 4 then 4 else if n = 5 then 5 else if n = 9 then 9 else if n = 21 then 21 else if n = 31 then 22 else if n = 40 then 90 else if n = 46 then 134 else if n = 49 then 62 else if n = 51 then 81 else if n = 119 then 88 else if n = 141 then 114 else if n = 152 then 110 else if n = 154 then 112 else if n = 193 then 119 else if n = 194 then 120 else if n = 196 then 122 else if n = 198 then 124 else if n = 201 then 127 else if n = 226 then 133 else if n = 227 then 135 else n,
  fun n => if n = 0 then 0 else if n = 6 then 1 else n⟩
theorem laysF : Lays.n157 Tryd.prog renF where
  mixed := by kernel_rfl
  f157 := by kernel_rfl
  f199 := by kernel_rfl
  f229 := by kernel_rfl
  f261 := by kernel_rfl
  f311 := by kernel_rfl
  f312 := by kernel_rfl
  t0 := by kernel_rfl
  a0 _ := by kernel_rfl
  z0 _ := by kernel_rfl
  v0 _ := by kernel_rfl
  t3 := by kernel_rfl
  a3 _ := by kernel_rfl
  z3 _ := by kernel_rfl
  v3 _ := by kernel_rfl
  t4 := by kernel_rfl
  a4 _ := by kernel_rfl
  z4 _ := by kernel_rfl
  v4 _ := by kernel_rfl
  t5 := by kernel_rfl
  a5 _ := by kernel_rfl
  z5 _ := by kernel_rfl
  v5 _ := by kernel_rfl
  t9 := by kernel_rfl
  a9 _ := by kernel_rfl
  z9 _ := by kernel_rfl
  v9 _ := by kernel_rfl
  t21 := by kernel_rfl
  a21 _ := by kernel_rfl
  z21 _ := by kernel_rfl
  v21 _ := by kernel_rfl
  t31 := by kernel_rfl
  a31 _ := by kernel_rfl
  z31 _ := by kernel_rfl
  v31 _ := by kernel_rfl
  t40 := by kernel_rfl
  a40 _ := by kernel_rfl
  z40 _ := by kernel_rfl
  v40 _ := by kernel_rfl
  t46 := by kernel_rfl
  a46 _ := by kernel_rfl
  z46 _ := by kernel_rfl
  v46 _ := by kernel_rfl
  t49 := by kernel_rfl
  a49 _ := by kernel_rfl
  z49 _ := by kernel_rfl
  v49 _ := by kernel_rfl
  t51 := by kernel_rfl
  a51 _ := by kernel_rfl
  z51 _ := by kernel_rfl
  v51 _ := by kernel_rfl
  t119 := by kernel_rfl
  a119 _ := by kernel_rfl
  z119 _ := by kernel_rfl
  t141 := by kernel_rfl
  a141 _ := by kernel_rfl
  z141 _ := by kernel_rfl
  v141 _ := by kernel_rfl
  t152 := by kernel_rfl
  a152 _ := by kernel_rfl
  z152 _ := by kernel_rfl
  v152 _ := by kernel_rfl
  t154 := by kernel_rfl
  a154 _ := by kernel_rfl
  z154 _ := by kernel_rfl
  v154 _ := by kernel_rfl
  t193 := by kernel_rfl
  a193 _ := by kernel_rfl
  z193 _ := by kernel_rfl
  v193 _ := by kernel_rfl
  t194 := by kernel_rfl
  a194 _ := by kernel_rfl
  z194 _ := by kernel_rfl
  v194 _ := by kernel_rfl
  t196 := by kernel_rfl
  a196 _ := by kernel_rfl
  z196 _ := by kernel_rfl
  v196 _ := by kernel_rfl
  t198 := by kernel_rfl
  a198 _ := by kernel_rfl
  z198 _ := by kernel_rfl
  v198 _ := by kernel_rfl
  t201 := by kernel_rfl
  a201 _ := by kernel_rfl
  z201 _ := by kernel_rfl
  v201 _ := by kernel_rfl
  t226 := by kernel_rfl
  a226 _ := by kernel_rfl
  z226 _ := by kernel_rfl
  v226 _ := by kernel_rfl
  t227 := by kernel_rfl
  a227 _ := by kernel_rfl
  z227 _ := by kernel_rfl
  v227 _ := by kernel_rfl
  g0 := by kernel_rfl
  g6 := by kernel_rfl

/-- the library's table of white space lies as it was laid -/
def Tab (w : World) : Prop := ∀ c : Nat, c < 256 → w.cell? ⟨0, c, none⟩ = some (.int .u8 (if Lib.isSp (UInt8.ofNat c) then 1 else 0))
theorem Tab.lt {w : World} (h : Tab w) : 0 < w.heap.size := World.block_lt_of_cell? _ _ (h 0 (by decide))
theorem Tab.below {w w' : World} {B : Nat} (h : Tab w) (hb : Below B w w') (hB : 0 < B) : Tab w' := fun c hc => (hb.cell (p := ⟨0, c, none⟩) hB).trans (h c hc)
/-- a row's condition gives the table -/
theorem tab_laid {W : World} {d : DataW Unit} {rest : List (String × DataW Unit)} (h : laidMet Tryd.prog (("strings.asciiSpace", d) :: rest) W) (hd : d = Lib.tabData .u8 Lib.asciiSpaceTab := by kernel_rfl) : Tab W := by
  subst hd
  have htab := Lib.tabIs_of_head (g := 0) (t := 88) (e := 5) (n := 256) (by kernel_rfl) (by kernel_rfl) (by kernel_rfl) (by kernel_rfl) (by kernel_rfl) (by kernel_rfl) h
  intro c hc
  rw [htab.cell (g := 0) (by kernel_rfl) c (by rw [Lib.asciiSpaceTab_length]; exact hc), Lib.asciiSpaceTab_at c hc]
theorem fields_any (s : ByteArray) (w : World) (hs : s.size < 4294967281) (ha : s.data.toList.all (fun b => decide (b.toNat < 128)) = true) (hT : Tab w) :
    Calls Tryd.prog 30 #[.string s] w fun e w' => e = .returned (.slice (some ⟨w.heap.size, 0, none⟩) (Lib.fields s.data.toList).length (Lib.fields s.data.toList).length) ∧
      w' = w.alloc (.cells ((Lib.fields s.data.toList).map fun l => Value.string ⟨l.toArray⟩).toArray 9) :=
  Any.strings_Fields_core laysF (by kernel_rfl) s w hs (fun j b hb => by
    have := List.all_eq_true.1 ha b (List.mem_of_getElem? hb)
    simpa using this) hT
end Go.Proofs.YtplbbejdnahibaaDoor.Fx
