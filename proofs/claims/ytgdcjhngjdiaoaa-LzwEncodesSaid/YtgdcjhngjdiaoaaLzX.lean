
/- Rows of strings; the document's table at its beginning; the contract of start. -/
import Derived.Test.YtgdcjhngjdiaoaaLzW
import Derived.Test.YtgdcjhngjdiaoaaLzV
namespace Go.Proofs.Ytgdcjhngjdiaoaa.Lz
open Go.RowKit Go.Proofs.Ytgdcjhngjdiaoaa.Oct Go.Proofs.Ytgdcjhngjdiaoaa.Bit
set_option linter.unusedVariables false
set_option linter.unusedSimpArgs false
set_option maxRecDepth 100000

def strCells (L : List (List UInt8)) : List Value := L.map fun s => .string (bs s)
theorem strCells_length (L : List (List UInt8)) : (strCells L).length = L.length := by simp [strCells]
theorem strCells_append (L M : List (List UInt8)) : strCells (L ++ M) = strCells L ++ strCells M := by simp [strCells]
theorem strCells_get {L : List (List UInt8)} {j : Nat} {v : Value} (h : (strCells L)[j]? = some v) : ∃ hj : j < L.length, v = .string (bs L[j]) := by
  unfold strCells at h
  rw [List.getElem?_map] at h
  rcases Nat.lt_or_ge j L.length with hj | hj
  · rw [List.getElem?_eq_getElem hj] at h
    simp at h
    exact ⟨hj, h.symm⟩
  · rw [List.getElem?_eq_none hj] at h; simp at h
theorem strCells_one {L : List (List UInt8)} : ∀ v ∈ strCells L, v.oneCell' = true := by
  intro v hv
  simp [strCells] at hv
  obtain ⟨x, _, rfl⟩ := hv
  rfl
/-- a slice of strings reads as these -/
def StrRow (w : World) (p : Option Addr) (L : List (List UInt8)) : Prop :=
  ∃ b, p = some ⟨b, 0, none⟩ ∧ b < w.heap.size ∧ ∀ i (h : i < L.length), w.cell? ⟨b, i, none⟩ = some (.string (bs L[i]))
theorem StrRow.below {w w' : World} {p : Option Addr} {L : List (List UInt8)} (h : StrRow w p L) (hb : Below w.heap.size w w') : StrRow w' p L := by
  obtain ⟨b, rfl, hlt, hc⟩ := h
  exact ⟨b, rfl, Nat.lt_of_lt_of_le hlt hb.size, fun i hi => (hb.cell (p := ⟨b, i, none⟩) hlt).trans (hc i hi)⟩
theorem Try.infoStr : (Try.prog.info? 9).map (fun i => (i.zero, i.size, i.bytes)) = some (some (.string ByteArray.empty), 1, 16) := by kernel_rfl
theorem own_strs {w : World} {base n : Nat} {v : Value} {L : List (List UInt8)} (h : w.ownsRow base 9 1 v n (strCells L)) (hn : 0 < n) :
    ∃ g cap, v = .slice (some ⟨g, 0, none⟩) n cap ∧ n ≤ cap ∧ cap ≤ maxLen ∧ base ≤ g ∧ StrRow w (some ⟨g, 0, none⟩) L := by
  have hc := fun g hg => h.cells (g := g) hg
  have hl := fun k hk => h.lt k hk
  rcases h.2 with ⟨_, e⟩ | ⟨g, cap, cur, rfl, hb, hh, h1, h2, _, _⟩
  · omega
  · refine ⟨g, cap, rfl, h1, h2, hb, g, rfl, (hl g rfl).2, fun i hi => ?_⟩
    have := hc g rfl i (.string (bs L[i])) (by simp [strCells, hi])
    rw [add_plain, Nat.zero_add] at this
    exact this
theorem wpList_append_strs {w : World} {ops : Array Oper} {rest : List Oper} {o : Oper} {a : Act} {Q : Exit → Act → World → Prop} (hgd : o.guard = none) (s x : Operand)
    (ho : o.op = .call { callee := .builtin .append, args := #[s, x], argTypes := #[44, 44] })
    (base : Nat) (v : Value) (n : Nat) (L : List (List UInt8)) (hs : a.eval s = v) (hown : w.ownsRow base 9 1 v n (strCells L))
    (p : Option Addr) (m c : Nat) (M : List (List UInt8)) (hx : a.eval x = .slice p m c) (hr : StrRow w p M) (hm : M.length = m)
    (h47 : n + m ≤ 100000000) (hbase : base ≤ w.heap.size)
    (h : ∀ v' w', w'.ownsRow base 9 1 v' (n + m) (strCells (L ++ M)) → Below base w w' → wpList Try.prog ops Q rest (a.put o.dst v') w') :
    wpList Try.prog ops Q (o :: rest) a w := by
  obtain ⟨i0, hi, hz0, hz1, hz2⟩ := info_parts Try.infoStr
  obtain ⟨b, rfl, hlt, hc⟩ := hr
  refine wpList_append_own w hgd s x 44 ho base 9 i0 (.string ByteArray.empty) 1 16 Try.underlying44 hi hz0 hz1 hz2 rfl (by decide) v n (strCells L) hs hown ⟨b, 0, none⟩ m c (strCells M) hx (by rw [strCells_length, hm]; omega) ?_ strCells_one (by unfold maxLen; omega) (by omega) hbase ?_
  · intro j u hj
    obtain ⟨hj', rfl⟩ := strCells_get hj
    rw [add_plain, Nat.zero_add]
    exact hc j hj'
  · intro v' w' h2 h3 h4
    exact h v' w' (by rw [strCells_append]; exact h2) (grown_below hown h3 hbase)
theorem strs_new (w : World) (L : List (List UInt8)) (T : Nat) (fr : Nat × Nat) : StrRow (w.alloc (.cells (strCells L).toArray T fr)) (some ⟨w.heap.size, 0, none⟩) L := by
  refine ⟨w.heap.size, rfl, by simp, fun i h => ?_⟩
  rw [World.cell?_alloc_mark]
  simp [strCells, h]
/-- the strings of a table at its beginning -/
def startK (k : Nat) : List (List UInt8) := (List.range k).map fun i => [UInt8.ofNat i]
theorem startK_length (k : Nat) : (startK k).length = k := by simp [startK]
theorem startK_succ (k : Nat) : startK (k + 1) = startK k ++ [[UInt8.ofNat k]] := by simp [startK, List.range_succ]
def StartP (w : World) (e : Ending) (w' : World) : Prop := ∃ g c, e = .returned (.slice (some ⟨g, 0, none⟩) 258 c) ∧ 258 ≤ c ∧ c ≤ maxLen ∧ StrRow w' (some ⟨g, 0, none⟩) (startK 258) ∧ Below w.heap.size w w' ∧ w.heap.size ≤ g
set_option maxHeartbeats 1000000 in
theorem rstart_any (w : World) : Calls Try.prog 20 #[] w (StartP w) := by
  go_enter Try.func20, Try.ntmps20
  go_wp2_with fail
  go_loopw [1, 2] (fun u i wr => ∃ k : Nat, k ≤ 258 ∧ i = .int .i64 (k : Int) ∧ Hid (wr.ownsRow w.heap.size 9 1 u k (strCells (startK k))) ∧ Hid (Below w.heap.size w wr)) (fun _ i _ => 258 - (intOf i).toNat)
  case atStart => exact ⟨0, by omega, rfl, Lib.hid (by simpa [startK, strCells] using World.ownsRow_nil w w.heap.size 9 1), Lib.hid (Below.refl _ _)⟩
  case round =>
    obtain ⟨k, hk, rfl, HO, HB⟩ := hrel
    by_cases hlt : k < 258
    · have hd : decide ((k : Int) < 258) = true := by simp; omega
      have hb1 : Below wr.heap.size wr (wr.alloc (.cells #[.int .u8 ((UInt8.ofNat k).toNat : Int)] 5)) := (Below.refl _ wr).alloc (Nat.le_refl _) _
      have ca := conv_row 1 1 (row_one wr (UInt8.ofNat k) 5) rfl
      have hkb : ((UInt8.ofNat k).toNat : Int) = (k : Int) % 256 := by simp
      rw [hkb] at ca hb1
      obtain ⟨W1, hW1⟩ : ∃ W1, W1 = wr.alloc (.cells #[.int .u8 ((k : Int) % 256)] 5) := ⟨_, rfl⟩
      have hz1 : W1.heap.size = wr.heap.size + 1 := by rw [hW1]; simp
      rw [← hW1] at hb1
      have hb2 : Below W1.heap.size W1 (W1.alloc (.cells (strCells [[UInt8.ofNat k]]).toArray 9)) := (Below.refl _ W1).alloc (Nat.le_refl _) _
      have HS := Lib.hid (strs_new W1 [[UInt8.ofNat k]] 9 (0, 0))
      rw [hz1] at HS
      have HO2 := Lib.hid (own_below (own_below HO.out hb1) hb2)
      have HB2 := Lib.hid (HB.out.trans ((hb1.trans (hb2.mono hb1.size)).mono HB.out.size))
      have HZ := Lib.hid HB2.out.size
      rw [hW1] at HS HO2 HB2 HZ
      clear hb1 hb2 hz1 hW1 hkb
      go_wp2_with (at_builtin; refine wpList_append_strs rfl _ _ rfl w.heap.size _ k (startK k) rfl HO2.out (some ⟨wr.heap.size + 1, 0, none⟩) 1 1 [[UInt8.ofNat k]] rfl HS.out rfl (by omega) HZ.out ?_)
      intro v2 w2 hown2 hb3
      rw [← startK_succ] at hown2
      have HO3 := Lib.hid hown2
      have HB3 := Lib.hid (HB2.out.trans hb3)
      clear hown2 hb3
      go_wp2_with fail
      go_roundw
      case rel => exact ⟨k + 1, by omega, by go_num, HO3, HB3⟩
      case measure => simp [intOf]; omega
    · have hke : k = 258 := by omega
      subst hke
      obtain ⟨g, c, rfl, h1, h2, hg, hs⟩ := own_strs HO.out (by omega)
      have HS := Lib.hid hs
      have H2 := Lib.hid h2
      clear hs h2
      go_wp2_with fail
      go_ret
      exact ⟨g, c, rfl, h1, H2.out, HS.out, HB.out, hg⟩
end Go.Proofs.Ytgdcjhngjdiaoaa.Lz
