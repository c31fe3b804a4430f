
/- Slices of tokens that came in; the contract of right. -/
import Derived.Test.YtmcjhkdcbblnnaaIhA
import Derived.Test.YtmcjhkdcbblnnaaIfO
import Derived.Deep.Slices
import Derived.Deep.Fields
import Derived.ChangeSame
namespace Go.Proofs.Ytmcjhkdcbblnnaa.Inf
open Go.RowKit Go.Proofs.Ytmcjhkdcbblnnaa.Oct Go.Proofs.Ytmcjhkdcbblnnaa.Bit Go.Proofs.Ytmcjhkdcbblnnaa.Hf Go.ChangeShapes Go.WideShapes Go.Deep
set_option linter.unusedVariables false
set_option linter.unusedSimpArgs false
set_option maxRecDepth 100000

/-- a token at a place -/
def TokAt (w : World) (b off i : Nat) (t : Tok) : Prop :=
  w.cell? ⟨b, off + i * 3, none⟩ = some (.int .u8 (t.lit.toNat : Int)) ∧ w.cell? ⟨b, off + i * 3 + 1, none⟩ = some (.int .i64 t.len) ∧ w.cell? ⟨b, off + i * 3 + 2, none⟩ = some (.int .i64 t.dist)
def TokOk (t : Tok) : Prop := -9223372036854775808 ≤ t.len ∧ t.len ≤ 9223372036854775807 ∧ -9223372036854775808 ≤ t.dist ∧ t.dist ≤ 9223372036854775807
/-- these tokens -/
def Toks (w : World) (C : Nat) (a : Option Addr) (l : List Tok) : Prop :=
  (∀ t ∈ l, TokOk t) ∧ (0 < l.length → ∃ b off, a = some ⟨b, off, none⟩ ∧ b < C ∧ ∀ i (h : i < l.length), TokAt w b off i l[i])
def IsToks (w : World) (a : Option Addr) (len cap : Nat) : Prop := len ≤ cap ∧ cap ≤ maxLen ∧ ∃ l : List Tok, l.length = len ∧ Toks w w.heap.size a l
theorem TokAt.below {w w' : World} {b off i B : Nat} {t : Tok} (h : TokAt w b off i t) (hb : Below B w w') (hlt : b < B) : TokAt w' b off i t :=
  ⟨(hb.cell (by exact hlt)).trans h.1, (hb.cell (by exact hlt)).trans h.2.1, (hb.cell (by exact hlt)).trans h.2.2⟩
theorem Toks.below {w w' : World} {C B : Nat} {a : Option Addr} {l : List Tok} (h : Toks w C a l) (hb : Below B w w') (hC : C ≤ B) : Toks w' C a l :=
  ⟨h.1, fun hp => by
    obtain ⟨b, off, e, hlt, hc⟩ := h.2 hp
    exact ⟨b, off, e, hlt, fun i hi => (hc i hi).below hb (by omega)⟩⟩
section
variable {H : Type} {enc : TypeId × Value → H} {w : World} {spare : Nat → Bool} {held : Bool}
theorem three9 {α : Type} {l : List α} (h : l.length = 3) : ∃ a b c, l = [a, b, c] := by
  match l, h with
  | [a, b, c], _ => exact ⟨a, b, c, rfl⟩
theorem tok_fields {fuel : Nat} {cs : List Value} {x : DataW H × List MemPlace} (h : DataW.trod enc Try.prog w 0 spare held fuel 73 cs = some x) :
    ∃ t : Tok, cs = [.int .u8 (t.lit.toNat : Int), .int .i64 t.len, .int .i64 t.dist] ∧ TokOk t := by
  have hC : Try.prog.cellsOf 73 = 3 := by kernel_rfl
  have k3 : Try.prog.cellsOf 5 = 1 := by kernel_rfl
  have k4 : Try.prog.cellsOf 3 = 1 := by kernel_rfl
  obtain ⟨ys, n', _, _, hlen, hyl, hf⟩ := DataW.trod_struct Try.underlying73 h
  rw [hC] at hlen
  obtain ⟨c0, c1, c2, rfl⟩ := three9 hlen
  obtain ⟨y0, y1, y2, rfl⟩ := three9 hyl
  have h0 := hf 0 _ rfl
  have h1 := hf 1 _ rfl
  have h2 := hf 2 _ rfl
  simp [k3] at h0
  simp [k4] at h1 h2
  obtain ⟨k, e0, _, w0⟩ := DataW.trod_int Try.underlying5 h0
  obtain ⟨n, e1, _, w1⟩ := DataW.trod_int Try.underlying3 h1
  obtain ⟨v, e2, _, w2⟩ := DataW.trod_int Try.underlying3 h2
  simp at e0 e1 e2
  subst e0 e1 e2
  have b0 := bounds_u8 w0
  have b1 := bounds_i64 w1
  have b2 := bounds_i64 w2
  refine ⟨⟨UInt8.ofNat k.toNat, n, v⟩, ?_, b1.1, b1.2, b2.1, b2.2⟩
  have : (((UInt8.ofNat k.toNat).toNat : Nat) : Int) = k := by rw [UInt8.toNat_ofNat']; omega
  simp only [this]
theorem open_toks {fuel : Nat} {a : Option Addr} {len cap : Nat} {x : DataW H × List MemPlace} (h : DataW.trod enc Try.prog w 0 spare held fuel 43 [.slice a len cap] = some x) : IsToks w a len cap := by
  have hC : Try.prog.cellsOf 73 = 3 := by kernel_rfl
  rcases open_slice Try.underlying43 h with ⟨hcs, _⟩ | ⟨ad, l, c, m, n, D, Pl, hcs, hb, hl, hm, hmm, _, hi⟩
  · simp at hcs
    obtain ⟨rfl, rfl, rfl⟩ := hcs
    exact ⟨Nat.le_refl _, by simp [maxLen], [], rfl, (fun t ht => by cases ht), fun h => absurd h (by simp)⟩
  · simp at hcs
    obtain ⟨rfl, rfl, rfl⟩ := hcs
    refine ⟨hl, hm, ?_⟩
    rcases Nat.eq_zero_or_pos len with h0 | hp
    · exact ⟨[], h0.symm, (fun t ht => by cases ht), fun h => absurd h (by simp)⟩
    have hlm : len ≤ m := by rw [hmm]; split <;> omega
    obtain ⟨b, off, spot⟩ := ad
    have hs : spot = none := by
      obtain ⟨cs', hc, ht⟩ := hi 0 (by omega)
      rw [hC] at hc
      obtain ⟨_, hcl, hat⟩ := World.cells?_some hc
      have h0 := hat 0 (by omega)
      rw [List.getElem?_eq_getElem (by omega)] at h0
      simpa [Addr.add] using World.cell?_spot h0
    subst hs
    have key : ∀ i, ∃ t : Tok, i < len → TokAt w b off i t ∧ TokOk t := by
      intro i
      by_cases hil : i < len
      · obtain ⟨cs', hc, ht⟩ := hi i (by omega)
        rw [hC] at hc
        obtain ⟨_, hcl, hat⟩ := World.cells?_some hc
        obtain ⟨t, rfl, hok⟩ := tok_fields ht
        have h0 := hat 0 (by omega)
        have h1 := hat 1 (by omega)
        have h2 := hat 2 (by omega)
        simp only [Oct.add_plain] at h0 h1 h2
        exact ⟨t, fun _ => ⟨⟨h0, h1, h2⟩, hok⟩⟩
      · exact ⟨⟨0, 0, 0⟩, fun h => absurd h hil⟩
    obtain ⟨f, hf⟩ := Classical.axiomOfChoice key
    refine ⟨(List.range len).map f, by simp, fun t ht => ?_, fun _ => ⟨b, off, rfl, ?_, fun i hi2 => ?_⟩⟩
    · obtain ⟨i, hi2, rfl⟩ := List.mem_map.1 ht
      exact (hf i (List.mem_range.1 hi2)).2
    · exact lt_of_cell (hf 0 hp).1.1
    · have h1 : i < len := by simpa using hi2
      have h2 : ((List.range len).map f)[i] = f i := by simp
      rw [h2]
      exact (hf i h1).1
end
theorem tok_step {lim : Nat} {t : Tok} {r : List Tok} {out : List UInt8} : rightT lim (t :: r) out = if t.len = 0 then rightT lim r (out ++ [t.lit])
      else if t.len < 3 ∨ 258 < t.len ∨ t.dist < 1 ∨ (out.length : Int) < t.dist ∨ 32768 < t.dist ∨ lim < out.length then none
      else rightT lim r (copyN out t.dist.toNat t.len.toNat) := rfl
def RightP (w : World) (l : List Tok) (e : Ending) (w' : World) : Prop :=
  Below w.heap.size w w' ∧ ((∃ o, rightT 2000 l [] = some o ∧ o.length ≤ 2258 + l.length ∧ e = .returned (.tuple #[.string (bs o), .bool true])) ∨ (rightT 2000 l [] = none ∧ e = .returned (.tuple #[.string ByteArray.empty, .bool false])))
set_option maxHeartbeats 8000000 in
theorem right_any (a : Option Addr) (len cap : Nat) (l : List Tok) (w : World) (hl : l.length = len) (hlen : len ≤ 200) (h : Toks w w.heap.size a l) :
    Calls Try.prog 17 #[.slice a len cap] w (RightP w l) := by
  obtain ⟨X, hX⟩ : ∃ X, X = rightT 2000 l [] := ⟨_, rfl⟩
  have HX := Lib.hid hX
  have H := Lib.hid h
  have HL := Lib.hid hl
  clear hX h hl
  go_enter Try.func17, Try.ntmps17
  go_wp2_with fail
  go_loopw [4, 6, 9] (fun s _ i wr => ∃ (k : Nat) (out : List UInt8), k ≤ len ∧ i = .int .i64 (k : Int) ∧ s = .string (bs out) ∧ Hid (rightT 2000 (l.drop k) out = X) ∧ out.length ≤ 2258 + k ∧ Hid (Below w.heap.size w wr)) (fun _ _ i _ => len - (intOf i).toNat)
  case atStart => exact ⟨0, [], by omega, rfl, rfl, Lib.hid (by rw [List.drop_zero]; exact HX.out.symm), by simp, Lib.hid (Below.refl _ _)⟩
  case round =>
    obtain ⟨k, out, hk, rfl, rfl, HRT, hol, HB⟩ := hrel
    by_cases hlt : k < len
    · have ql : decide ((k : Int) < (len : Int)) = true := by simpa using hlt
      have i1 : (0 : Int) ≤ (k : Int) := by omega
      have i2 : (k : Int) < (len : Int) := by omega
      have hkl : k < l.length := by rw [HL.out]; exact hlt
      obtain ⟨b, off, rfl, hb, hc⟩ := H.out.2 (by omega)
      obtain ⟨c0, c1, c2⟩ := (hc k hkl).below HB.out hb
      have hdr : l.drop k = l[k] :: l.drop (k + 1) := List.drop_eq_getElem_cons hkl
      obtain ⟨tb1, tb2, tb3, tb4⟩ := H.out.1 _ (List.getElem_mem hkl)
      have hrt := HRT.out
      rw [hdr, tok_step] at hrt
      generalize l[k] = t at c0 c1 c2 hrt tb1 tb2 tb3 tb4
      obtain ⟨x, n, d⟩ := t
      simp only at c0 c1 c2 hrt tb1 tb2 tb3 tb4
      have hos := bs_size out
      have hba : Below w.heap.size w (wr.alloc (.cells #[.int .u8 (x.toNat : Int), .int .i64 n, .int .i64 d] 73)) := HB.out.alloc HB.out.size _
      have HBA := Lib.hid hba
      have HRT2 := Lib.hid hrt
      clear hc hdr hrt hba HRT
      by_cases hn0 : n = 0
      · subst hn0
        have HRT3 : Hid (rightT 2000 (l.drop (k + 1)) (out ++ [x]) = X) := Lib.hid (by have := HRT2.out; rwa [if_pos rfl] at this)
        have hcv := conv_row (w := (wr.alloc (.cells #[.int .u8 (x.toNat : Int), .int .i64 0, .int .i64 d] 73)).alloc (.cells #[.int .u8 (x.toNat : Int)] 5)) 1 1 (row_val (wr.alloc (.cells #[.int .u8 (x.toNat : Int), .int .i64 0, .int .i64 d] 73)) (x.toNat : Int) x rfl) rfl
        rw [show (wr.alloc (.cells #[.int .u8 (x.toNat : Int), .int .i64 0, .int .i64 d] 73)).heap.size = wr.heap.size + 1 from Array.size_push _] at hcv
        have hz1 : (bs [x]).size = 1 := by rw [bs_size]; rfl
        have HN : Hid (∀ V : World, Below w.heap.size w V → Below w.heap.size w (V.alloc (.cells #[.int .u8 (x.toNat : Int)] 5))) := Lib.hid fun V hV => hV.alloc hV.size _
        go_wp2_with fail
        go_roundw
        case rel => exact ⟨k + 1, out ++ [x], by omega, by first | rfl | (push_cast; rfl), by first | (rw [← bs_append]; done) | (rw [← bs_append]; rfl), HRT3, by simp; omega, Lib.hid (HN.out _ HBA.out)⟩
        case measure => simp [intOf]; omega
      · have q0 : (n == 0) = false := by simpa using hn0
        have hrt3 := HRT2.out
        rw [if_neg hn0] at hrt3
        by_cases hbad : n < 3 ∨ 258 < n ∨ d < 1 ∨ (out.length : Int) < d ∨ 32768 < d ∨ 2000 < out.length
        · rw [if_pos hbad] at hrt3
          have HRES : Hid (∀ V, Below w.heap.size w V → RightP w l (.returned (.tuple #[.string ByteArray.empty, .bool false])) V) := Lib.hid fun V hV => ⟨hV, .inr ⟨by rw [← HX.out, ← hrt3], rfl⟩⟩
          have hcase : (decide (n < 3) = true) ∨ (decide (n < 3) = false ∧ decide (258 < n) = true) ∨ (decide (n < 3) = false ∧ decide (258 < n) = false ∧ decide (d < 1) = true) ∨ (decide (n < 3) = false ∧ decide (258 < n) = false ∧ decide (d < 1) = false ∧ decide ((out.length : Int) < d) = true) ∨
              (decide (n < 3) = false ∧ decide (258 < n) = false ∧ decide (d < 1) = false ∧ decide ((out.length : Int) < d) = false ∧ decide (32768 < d) = true) ∨
              (decide (n < 3) = false ∧ decide (258 < n) = false ∧ decide (d < 1) = false ∧ decide ((out.length : Int) < d) = false ∧ decide (32768 < d) = false ∧ decide (2000 < (out.length : Int)) = true) := by
            simp only [decide_eq_true_eq, decide_eq_false_iff_not]
            omega
          clear hbad hrt3 hn0
          rcases hcase with p1 | ⟨p1, p2⟩ | ⟨p1, p2, p3⟩ | ⟨p1, p2, p3, p4⟩ | ⟨p1, p2, p3, p4, p5⟩ | ⟨p1, p2, p3, p4, p5, p6⟩
          all_goals
            go_wp2_with fail
            go_ret2
            exact HRES.out _ HBA.out
        · rw [if_neg hbad] at hrt3
          have p1 : decide (n < 3) = false := by simp; omega
          have p2 : decide (258 < n) = false := by simp; omega
          have p3 : decide (d < 1) = false := by simp; omega
          have p4 : decide ((out.length : Int) < d) = false := by simp; omega
          have p5 : decide (32768 < d) = false := by simp; omega
          have p6 : decide (2000 < (out.length : Int)) = false := by simp; omega
          obtain ⟨N, rfl⟩ : ∃ N : Nat, n = (N : Int) := ⟨n.toNat, by omega⟩
          obtain ⟨D, rfl⟩ : ∃ D : Nat, d = (D : Int) := ⟨d.toNat, by omega⟩
          have hN : N ≤ 258 := by omega
          have hD1 : 1 ≤ D := by omega
          have hD2 : D ≤ out.length := by omega
          have ho2 : out.length ≤ 2000 := by omega
          rw [Int.toNat_natCast, Int.toNat_natCast] at hrt3
          have HRT3 := Lib.hid hrt3
          obtain ⟨wx, hwx⟩ : ∃ wx, wx = wr.alloc (.cells #[.int .u8 (x.toNat : Int), .int .i64 (N : Int), .int .i64 (D : Int)] 73) := ⟨_, rfl⟩
          have hblk : wx.heap[wr.heap.size]? = some (.cells #[.int .u8 (x.toNat : Int), .int .i64 (N : Int), .int .i64 (D : Int)] 73 (0, 0)) := by rw [hwx]; exact Array.getElem?_push_size
          have g1 : wx.cell? ⟨wr.heap.size, 1, none⟩ = some (.int .i64 (N : Int)) := by simp [World.cell?, hblk]
          have g2 : wx.cell? ⟨wr.heap.size, 2, none⟩ = some (.int .i64 (D : Int)) := by simp [World.cell?, hblk]
          have HWX := Lib.hid hwx
          rw [← hwx] at HBA
          clear hbad hrt3 hn0 HRT2 hwx hblk
          go_wp2_with fail
          rw [← HWX.out]
          go_loopw [4, 54] (fun s i wq => ∃ (j : Nat) (o2 : List UInt8), j ≤ N ∧ i = .int .i64 (j : Int) ∧ s = .string (bs o2) ∧ Hid (copyN o2 D (N - j) = copyN out D N) ∧ o2.length = out.length + j ∧ wx = wq) (fun _ i _ => N - (intOf i).toNat)
          case atStart => exact ⟨0, out, by omega, rfl, rfl, Lib.hid rfl, rfl, rfl⟩
          case round =>
            obtain ⟨j, o2, hj, rfl, rfl, HCP, hol2, rfl⟩ := hrel
            by_cases hjN : j < N
            · have qj : decide ((j : Int) < (N : Int)) = true := by simpa using hjN
              obtain ⟨z, hz⟩ : ∃ z, o2.length - D = z := ⟨_, rfl⟩
              have hzl : z < o2.length := by omega
              obtain ⟨y, hy⟩ : ∃ y, o2[z] = y := ⟨_, rfl⟩
              have hos2 := bs_size o2
              have hzi : (o2.length : Int) - (D : Int) = (z : Int) := by omega
              have hx1 : (bs o2).extract z (z + 1) = bs [y] := by rw [bs_extract, one_at o2 z hzl, hy]
              have hcp := HCP.out
              rw [show N - j = (N - (j + 1)) + 1 from by omega, copyN, hz, List.getD_eq_getElem?_getD, List.getElem?_eq_getElem hzl, hy] at hcp
              have HCP2 : Hid (copyN (o2 ++ [y]) D (N - (j + 1)) = copyN out D N) := Lib.hid hcp
              have HOL := Lib.hid hol2
              have hob : o2.length ≤ 3000 := by omega
              have hz1 : (bs [y]).size = 1 := by rw [bs_size]; rfl
              clear hcp hy HCP hol2 hz
              go_wp2_with fail
              go_roundw
              case rel => exact ⟨j + 1, o2 ++ [y], by omega, by first | rfl | (push_cast; rfl), by first | (rw [← bs_append]; done) | (rw [← bs_append]; rfl), HCP2, by rw [List.length_append, HOL.out]; simp; omega, by first | rfl | trivial⟩
              case measure => simp [intOf]; omega
            · have hjN2 : j = N := by omega
              subst hjN2
              have qj : decide ((j : Int) < (j : Int)) = false := by simp
              have hco := HCP.out
              rw [Nat.sub_self] at hco
              have HO2 : Hid (rightT 2000 (l.drop (k + 1)) o2 = X) := Lib.hid (by rw [show o2 = copyN out D j from hco]; exact HRT3.out)
              have hb2 : o2.length ≤ 2258 + (k + 1) := by omega
              clear hco HCP hol2
              go_wp2_with fail
              go_roundw
              case rel => exact ⟨k + 1, o2, by omega, by first | rfl | (push_cast; rfl), rfl, HO2, hb2, HBA⟩
              case measure => simp [intOf]; omega
    · have hkn : k = len := by omega
      have ql : decide ((k : Int) < (len : Int)) = false := by simp; omega
      have HRES : Hid (RightP w l (.returned (.tuple #[.string (bs out), .bool true])) wr) := Lib.hid ⟨HB.out, .inl ⟨out, by
        have := HRT.out
        rw [hkn, ← HL.out, List.drop_length] at this
        rw [← HX.out, ← this]
        rfl, by rw [HL.out, ← hkn]; exact hol, rfl⟩⟩
      clear hkn
      go_wp2_with fail
      go_ret2
      exact HRES.out
end Go.Proofs.Ytmcjhkdcbblnnaa.Inf
