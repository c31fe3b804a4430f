
/- The contracts of appendToken at a copy, and of Expand. -/
import Derived.Test.YtboknaakcbjkiaaLtP
namespace Go.Proofs.Ytboknaakcbjkiaa.Lzt
open Go.RowKit Go.Proofs.Ytboknaakcbjkiaa.Oct
set_option linter.unusedVariables false
set_option linter.unusedSimpArgs false
set_option maxRecDepth 100000

/-- an own row while a copy is appended -/
structure Cpy (w : World) (base g : Nat) (O : Obj) (v : Value) (out : List UInt8) (wr : World) : Prop where
  own : wr.ownsRow base 5 1 v out.length (cellsOf out)
  bel : Below base w wr
  blk : wr.heap[g]? = some O
  sep : v.ownBlock ≠ some g
  hb : base ≤ g
  lt : g < wr.heap.size
theorem Cpy.step {w wr w9 : World} {base g g9 c9 : Nat} {O : Obj} {v : Value} {out : List UInt8} {y : UInt8} (h : Cpy w base g O v out wr)
    (ho : w9.ownsRow 0 5 1 (.slice (some ⟨g9, 0, none⟩) (out.length + 1) c9) (out ++ [y]).length (cellsOf (out ++ [y])))
    (hon : Only (fun k => v.ownBlock = some k) (wr.alloc (.cells #[.int .u8 (y.toNat : Int)] 5)) w9) (hat : v.ownBlock = some g9 ∨ g9 = wr.heap.size + 1) :
    Cpy w base g O (.slice (some ⟨g9, 0, none⟩) (out.length + 1) c9) (out ++ [y]) w9 := by
  have h1 := h.lt
  have h2 := h.hb
  have hb1 := fun k hk => h.own.lt k hk
  have hne : g9 ≠ g := by
    rintro rfl
    rcases hat with e | e
    · exact h.sep e
    · omega
  have hz := hon.2.2.2.1
  have hza : (wr.alloc (.cells #[.int .u8 (y.toNat : Int)] 5)).heap.size = wr.heap.size + 1 := by simp
  rw [hza] at hz
  refine ⟨own_base ho fun k hk => ?_, ?_, ?_, fun e => ?_, h2, by omega⟩
  · have : g9 = k := by simpa [Value.ownBlock] using hk
    subst this
    rcases hat with e | e
    · exact (hb1 _ e).1
    · omega
  · exact ((h.bel.alloc (by omega) _)).trans (hon.below (by rw [hza]; omega) fun k hk e => by have := (hb1 _ e).1; omega)
  · rw [hon.2.2.2.2 g (by rw [hza]; omega) (fun e => h.sep e), ← h.blk]
    exact ((Below.refl wr.heap.size wr).alloc (Nat.le_refl _) _).block g h1
  · exact hne (by simpa [Value.ownBlock] using e)
set_option maxHeartbeats 2000000 in
theorem append_copy (v : Value) (base : Nat) (x : UInt8) (N D : Nat) (out : List UInt8) (w : World) (ho : w.ownsRow base 5 1 v out.length (cellsOf out)) (hbw : base ≤ w.heap.size) (hl : out.length ≤ 100000)
    (hN : 3 ≤ N) (hN2 : N ≤ 258) (hD : 1 ≤ D) (hD2 : D ≤ out.length) :
    Calls Try.prog 12 #[v, tokV ⟨x, (N : Int), (D : Int)⟩] w (AppP w base (copyN out D N)) := by
  obtain ⟨O, hO⟩ : ∃ O : Obj, O = .cells #[.int .u8 (x.toNat : Int), .int .i64 (N : Int), .int .i64 (D : Int)] 31 (0, 0) := ⟨_, rfl⟩
  have hba : Below w.heap.size w (w.alloc (.cells #[.int .u8 (x.toNat : Int), .int .i64 (N : Int), .int .i64 (D : Int)] 31)) := (Below.refl _ w).alloc (Nat.le_refl _) _
  have HC : Hid (Cpy w base w.heap.size O v out (w.alloc (.cells #[.int .u8 (x.toNat : Int), .int .i64 (N : Int), .int .i64 (D : Int)] 31))) :=
    Lib.hid ⟨own_below ho hba, hba.mono hbw, by rw [hO]; exact Array.getElem?_push_size, fun e => by have := (ho.lt _ e).2; omega, hbw, by simp⟩
  have HO := Lib.hid hO
  have q0 : ((N : Int) == 0) = false := by simp; omega
  unfold tokV
  clear ho hba hbw hO
  go_enter Try.func12, Try.ntmps12
  go_wp2_with fail
  go_loopw [0, 15] (fun s i wr => ∃ (j : Nat) (o2 : List UInt8) (s2 : Value), j ≤ N ∧ i = .int .i64 (j : Int) ∧ s = s2 ∧ Hid (Cpy w base w.heap.size O s2 o2 wr) ∧ Hid (copyN o2 D (N - j) = copyN out D N) ∧ o2.length = out.length + j) (fun _ i _ => N - (intOf i).toNat)
  case atStart => exact ⟨0, out, v, by omega, rfl, rfl, HC, Lib.hid rfl, rfl⟩
  case round =>
    obtain ⟨j, o2, s, hj, rfl, hsv, HCR, HCP, hol2⟩ := hrel
    have hsv2 := hsv.symm
    subst hsv2
    clear hsv
    clear HC
    by_cases hjN : j < N
    · have qj : decide ((j : Int) < (N : Int)) = true := by simpa using hjN
      have hv : s ≠ .slice none 0 0 := by
        rintro rfl
        rcases HCR.out.own.2 with ⟨_, e⟩ | ⟨g, cap, cur, e, _⟩
        · omega
        · cases e
      obtain ⟨g', cap, rfl, hc1, hc2, hc3, hc4, hrow⟩ := own_form HCR.out.own hv
      obtain ⟨z, hz⟩ : ∃ z, o2.length - D = z := ⟨_, rfl⟩
      have hzl : z < o2.length := by omega
      obtain ⟨y, hy⟩ : ∃ y, o2[z] = y := ⟨_, rfl⟩
      have hzi : (o2.length : Int) - (D : Int) = (z : Int) := by omega
      obtain ⟨b5, o5, e5, hb5, hcell⟩ := hrow (by omega)
      injection e5 with e5
      injection e5 with e5 e6
      subst e5 e6
      have cz := hcell z hzl
      rw [hy, Nat.zero_add] at cz
      have hblk := HCR.out.blk
      rw [HO.out] at hblk
      have g1 : wr.cell? ⟨w.heap.size, 1, none⟩ = some (.int .i64 (N : Int)) := by simp [World.cell?, hblk]
      have g2 : wr.cell? ⟨w.heap.size, 2, none⟩ = some (.int .i64 (D : Int)) := by simp [World.cell?, hblk]
      have hcp := HCP.out
      rw [show N - j = (N - (j + 1)) + 1 from by omega, copyN, hz, List.getD_eq_getElem?_getD, List.getElem?_eq_getElem hzl, hy] at hcp
      have HCP2 : Hid (copyN (o2 ++ [y]) D (N - (j + 1)) = copyN out D N) := Lib.hid hcp
      have HOL := Lib.hid hol2
      have hob : o2.length ≤ 200000 := by omega
      have i1 : (0 : Int) ≤ (z : Int) := by omega
      have i2 : (z : Int) < (o2.length : Int) := by omega
      have HOB := Lib.hid hob
      have HOWN := Lib.hid (own_zero HCR.out.own)
      clear hcp hy HCP hol2 hz hblk hcell hrow hv
      go_wp2_with (at_builtin; go_loud (refine app_one (W := wr) rfl _ _ rfl (.slice (some ⟨g', 0, none⟩) o2.length cap) o2 y (y.toNat : Int) rfl rfl HOWN.out wr.heap.size rfl rfl o2.length rfl HOB.out ?_; intro g9 c9 w9 hc91 hc92 hown9 hon9 hat9; have HS9 := Lib.hid (HCR.out.step hown9 hon9 hat9); clear hown9 hon9 hat9))
      go_roundw
      case rel => exact ⟨j + 1, o2 ++ [y], _, by omega, by first | rfl | (push_cast; rfl), rfl, HS9, HCP2, by rw [List.length_append, HOL.out]; simp; omega⟩
      case measure => simp [intOf]; omega
    · have hjN2 : j = N := by omega
      subst hjN2
      have qj : decide ((j : Int) < (j : Int)) = false := by simp
      have hco := HCP.out
      rw [Nat.sub_self] at hco
      have hco2 : copyN out D j = o2 := hco.symm
      have HRES : Hid (AppP w base (copyN out D j) (.returned s) wr) := Lib.hid (by rw [hco2]; exact ⟨s, rfl, HCR.out.own, HCR.out.bel⟩)
      clear hco hco2 HCP hol2
      go_wp2_with fail
      go_ret
      exact HRES.out
end Go.Proofs.Ytboknaakcbjkiaa.Lzt
