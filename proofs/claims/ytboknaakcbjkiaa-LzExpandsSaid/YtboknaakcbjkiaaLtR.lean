
/- The contract of the document's Expand. -/
import Derived.Test.YtboknaakcbjkiaaLtA
import Derived.LoopTactic
import Derived.BigQuiet
namespace Go.Proofs.Ytboknaakcbjkiaa.Lzt
open Go.RowKit Go.Proofs.Ytboknaakcbjkiaa.Oct Go.ChangeShapes Go.WideShapes Go.Deep
set_option linter.unusedVariables false
set_option linter.unusedSimpArgs false
set_option maxRecDepth 100000

theorem one_at9 (o : List UInt8) (z : Nat) (h : z < o.length) : (o.drop z).take (z + 1 - z) = [o[z]] := by
  rw [List.drop_eq_getElem_cons h, show z + 1 - z = 1 from by omega]
  rfl
def ExpS (w : World) (m : Int) (l : List Tok) (e : Ending) (w' : World) : Prop :=
  Below w.heap.size w w' ∧ ((∃ o, expX m l [] = .ok o ∧ o.length ≤ 258 * l.length ∧ e = .returned (.tuple #[.string (bs o), .int .i64 0])) ∨ (∃ c : Nat, expX m l [] = .error c ∧ e = .returned (.tuple #[.string ByteArray.empty, .int .i64 (c : Int)])))
set_option maxHeartbeats 8000000 in
theorem rexpand_any (a : Option Addr) (len cap : Nat) (m : Int) (l : List Tok) (w : World) (hl : l.length = len) (hlen : len ≤ 2000) (h : Toks w w.heap.size a l) :
    Calls Try.prog 8 #[.slice a len cap, .int .i64 m] w (ExpS w m l) := by
  obtain ⟨X, hX⟩ : ∃ X, X = expX m l [] := ⟨_, rfl⟩
  have HX := Lib.hid hX
  have H := Lib.hid h
  have HL := Lib.hid hl
  clear hX h hl
  go_enter Try.func8, Try.ntmps8
  go_wp2_with fail
  go_loopw [6, 7] (fun s i wr => ∃ (k : Nat) (out : List UInt8), k ≤ len ∧ i = .int .i64 (k : Int) ∧ s = .string (bs out) ∧ Hid (expX m (l.drop k) out = X) ∧ out.length ≤ 258 * k ∧ Hid (Below w.heap.size w wr)) (fun _ i _ => len - (intOf i).toNat)
  case atStart => exact ⟨0, [], by omega, rfl, rfl, Lib.hid (by rw [List.drop_zero]; exact HX.out.symm), by simp, Lib.hid (Below.refl _ _)⟩
  case round =>
    obtain ⟨k, out, hk, rfl, rfl, HRT, hol, HB⟩ := hrel
    by_cases hlt : k < len
    · have ql : decide ((k : Int) < (len : Int)) = true := by simpa using hlt
      have i1 : (0 : Int) ≤ (k : Int) := by omega
      have i2 : (k : Int) < (len : Int) := by omega
      have hkl : k < l.length := by rw [HL.out]; exact hlt
      obtain ⟨b, off, rfl, hb, hc⟩ := H.out.2 (by omega)
      obtain ⟨c0, c1, c2⟩ := (hc k hkl).below HB.out hb
      have hdr : l.drop k = l[k] :: l.drop (k + 1) := List.drop_eq_getElem_cons hkl
      obtain ⟨tb1, tb2, tb3, tb4⟩ := H.out.1 _ (List.getElem_mem hkl)
      have hrt := HRT.out
      rw [hdr] at hrt
      generalize l[k] = t at c0 c1 c2 hrt tb1 tb2 tb3 tb4
      obtain ⟨x, n, d⟩ := t
      simp only at c0 c1 c2 tb1 tb2 tb3 tb4
      have hos := bs_size out
      have hba : Below w.heap.size w (wr.alloc (.cells #[.int .u8 (x.toNat : Int), .int .i64 n, .int .i64 d] 31)) := HB.out.alloc HB.out.size _
      have HBA := Lib.hid hba
      have HRT2 := Lib.hid hrt
      clear hc hdr hrt hba HRT
      by_cases hn0 : n = 0
      · subst hn0
        have hcv := conv_row (w := (wr.alloc (.cells #[.int .u8 (x.toNat : Int), .int .i64 0, .int .i64 d] 31)).alloc (.cells #[.int .u8 (x.toNat : Int)] 5)) 1 1 (row_val (wr.alloc (.cells #[.int .u8 (x.toNat : Int), .int .i64 0, .int .i64 d] 31)) (x.toNat : Int) x rfl) rfl
        rw [show (wr.alloc (.cells #[.int .u8 (x.toNat : Int), .int .i64 0, .int .i64 d] 31)).heap.size = wr.heap.size + 1 from Array.size_push _] at hcv
        have hz1 : (bs [x]).size = 1 := by rw [bs_size]; rfl
        have HN : Hid (∀ V : World, Below w.heap.size w V → Below w.heap.size w (V.alloc (.cells #[.int .u8 (x.toNat : Int)] 5))) := Lib.hid fun V hV => hV.alloc hV.size _
        by_cases hm : m < (out.length : Int) + 1
        · have q1 : decide (m < (out.length : Int) + 1) = true := by simpa using hm
          have HRES : Hid (∀ V, Below w.heap.size w V → ExpS w m l (.returned (.tuple #[.string ByteArray.empty, .int .i64 8])) V) := Lib.hid fun V hV => ⟨hV, .inr ⟨8, by
            rw [← HX.out, ← HRT2.out]
            refine exp_err ?_
            unfold stepX
            rw [if_pos rfl, if_pos hm], rfl⟩⟩
          clear hm
          go_wp2_with fail
          go_ret2
          exact HRES.out _ (HN.out _ HBA.out)
        · have q1 : decide (m < (out.length : Int) + 1) = false := by simpa using hm
          have HRT3 : Hid (expX m (l.drop (k + 1)) (out ++ [x]) = X) := Lib.hid (by
            rw [← HRT2.out]
            refine (exp_ok ?_).symm
            unfold stepX
            rw [if_pos rfl, if_neg hm])
          clear hm
          go_wp2_with fail
          go_roundw
          case rel => exact ⟨k + 1, out ++ [x], by omega, by first | rfl | (push_cast; rfl), by first | (rw [← bs_append]; done) | (rw [← bs_append]; rfl), HRT3, by simp; omega, Lib.hid (HN.out _ HBA.out)⟩
          case measure => simp [intOf]; omega
      · have q0 : (n == 0) = false := by simpa using hn0
        by_cases hbad : n < 3 ∨ 258 < n ∨ d < 1 ∨ 32768 < d
        · have HRES : Hid (∀ V, Below w.heap.size w V → ExpS w m l (.returned (.tuple #[.string ByteArray.empty, .int .i64 1])) V) := Lib.hid fun V hV => ⟨hV, .inr ⟨1, by
            rw [← HX.out, ← HRT2.out]
            refine exp_err ?_
            unfold stepX
            rw [if_neg hn0, if_pos hbad], rfl⟩⟩
          have hcase : (decide (n < 3) = true) ∨ (decide (n < 3) = false ∧ decide (258 < n) = true) ∨ (decide (n < 3) = false ∧ decide (258 < n) = false ∧ decide (d < 1) = true) ∨
              (decide (n < 3) = false ∧ decide (258 < n) = false ∧ decide (d < 1) = false ∧ decide (32768 < d) = true) := by
            simp only [decide_eq_true_eq, decide_eq_false_iff_not]
            omega
          clear hbad hn0
          rcases hcase with p1 | ⟨p1, p2⟩ | ⟨p1, p2, p3⟩ | ⟨p1, p2, p3, p4⟩
          all_goals
            go_wp2_with fail
            go_ret2
            exact HRES.out _ HBA.out
        · have p1 : decide (n < 3) = false := by simp; omega
          have p2 : decide (258 < n) = false := by simp; omega
          have p3 : decide (d < 1) = false := by simp; omega
          have p4 : decide (32768 < d) = false := by simp; omega
          by_cases hfar : (out.length : Int) < d
          · have p5 : decide ((out.length : Int) < d) = true := by simpa using hfar
            have HRES : Hid (∀ V, Below w.heap.size w V → ExpS w m l (.returned (.tuple #[.string ByteArray.empty, .int .i64 3])) V) := Lib.hid fun V hV => ⟨hV, .inr ⟨3, by
              rw [← HX.out, ← HRT2.out]
              refine exp_err ?_
              unfold stepX
              rw [if_neg hn0, if_neg hbad, if_pos hfar], rfl⟩⟩
            clear hbad hfar hn0
            go_wp2_with fail
            go_ret2
            exact HRES.out _ HBA.out
          have p5 : decide ((out.length : Int) < d) = false := by simp; omega
          obtain ⟨N, rfl⟩ : ∃ N : Nat, n = (N : Int) := ⟨n.toNat, by omega⟩
          obtain ⟨D, rfl⟩ : ∃ D : Nat, d = (D : Int) := ⟨d.toNat, by omega⟩
          have hN : N ≤ 258 := by omega
          have hD1 : 1 ≤ D := by omega
          have hD2 : D ≤ out.length := by omega
          have ho2 : out.length ≤ 516000 := by omega
          have HST : Hid (stepX m ⟨x, (N : Int), (D : Int)⟩ out = if m < (out.length : Int) + (N : Int) then .error 8 else .ok (copyN out D N)) := Lib.hid (by
            unfold stepX
            rw [if_neg hn0, if_neg hbad, if_neg hfar]
            rfl)
          obtain ⟨wx, hwx⟩ : ∃ wx, wx = wr.alloc (.cells #[.int .u8 (x.toNat : Int), .int .i64 (N : Int), .int .i64 (D : Int)] 31) := ⟨_, rfl⟩
          have hblk : wx.heap[wr.heap.size]? = some (.cells #[.int .u8 (x.toNat : Int), .int .i64 (N : Int), .int .i64 (D : Int)] 31 (0, 0)) := by rw [hwx]; exact Array.getElem?_push_size
          have g1 : wx.cell? ⟨wr.heap.size, 1, none⟩ = some (.int .i64 (N : Int)) := by simp [World.cell?, hblk]
          have g2 : wx.cell? ⟨wr.heap.size, 2, none⟩ = some (.int .i64 (D : Int)) := by simp [World.cell?, hblk]
          have HWX := Lib.hid hwx
          rw [← hwx] at HBA
          clear hbad hfar hn0 hwx hblk
          go_wp2_with fail
          rw [← HWX.out]
          go_loopw [6, 9] (fun s i wq => ∃ (j : Nat) (o2 : List UInt8), j ≤ N ∧ i = .int .i64 (j : Int) ∧ s = .string (bs o2) ∧ Hid (copyN o2 D (N - j) = copyN out D N) ∧ o2.length = out.length + j ∧ wx = wq) (fun _ i _ => N - (intOf i).toNat)
          case atStart => exact ⟨0, out, by omega, rfl, rfl, Lib.hid rfl, rfl, rfl⟩
          case round =>
            obtain ⟨j, o2, hj, rfl, rfl, HCP, hol2, rfl⟩ := hrel
            by_cases hjN : j < N
            · have qj : decide ((j : Int) < (N : Int)) = true := by simpa using hjN
              obtain ⟨z, hz⟩ : ∃ z, o2.length - D = z := ⟨_, rfl⟩
              have hzl : z < o2.length := by omega
              obtain ⟨y, hy⟩ : ∃ y, o2[z] = y := ⟨_, rfl⟩
              have hos2 := bs_size o2
              have hzi : (o2.length : Int) - (D : Int) = (z : Int) := by omega
              have hx1 : (bs o2).extract z (z + 1) = bs [y] := by rw [bs_extract, one_at9 o2 z hzl, hy]
              have hcp := HCP.out
              rw [show N - j = (N - (j + 1)) + 1 from by omega, copyN, hz, List.getD_eq_getElem?_getD, List.getElem?_eq_getElem hzl, hy] at hcp
              have HCP2 : Hid (copyN (o2 ++ [y]) D (N - (j + 1)) = copyN out D N) := Lib.hid hcp
              have HOL := Lib.hid hol2
              have hob : o2.length ≤ 600000 := by omega
              have hz1 : (bs [y]).size = 1 := by rw [bs_size]; rfl
              clear hcp hy HCP hol2 hz
              go_wp2_with fail
              go_roundw
              case rel => exact ⟨j + 1, o2 ++ [y], by omega, by first | rfl | (push_cast; rfl), by first | (rw [← bs_append]; done) | (rw [← bs_append]; rfl), HCP2, by rw [List.length_append, HOL.out]; simp; omega, by first | rfl | trivial⟩
              case measure => simp [intOf]; omega
            · have hjN2 : j = N := by omega
              subst hjN2
              have qj : decide ((j : Int) < (j : Int)) = false := by simp
              have hco := HCP.out
              rw [Nat.sub_self] at hco
              have hco2 : o2 = copyN out D j := hco
              have hos2 := bs_size o2
              by_cases hm : m < (out.length : Int) + (j : Int)
              · have q1 : decide (m < (o2.length : Int)) = true := by rw [decide_eq_true_eq]; omega
                have HRES : Hid (∀ V, Below w.heap.size w V → ExpS w m l (.returned (.tuple #[.string ByteArray.empty, .int .i64 8])) V) := Lib.hid fun V hV => ⟨hV, .inr ⟨8, by
                  rw [← HX.out, ← HRT2.out]
                  refine exp_err ?_
                  rw [HST.out, if_pos hm], rfl⟩⟩
                clear hco hco2 HCP hol2 hm
                go_wp2_with fail
                go_ret2
                exact HRES.out _ HBA.out
              · have q1 : decide (m < (o2.length : Int)) = false := by rw [decide_eq_false_iff_not]; omega
                have HO2 : Hid (expX m (l.drop (k + 1)) o2 = X) := Lib.hid (by
                  rw [← HRT2.out]
                  refine (exp_ok ?_).symm
                  rw [HST.out, if_neg hm, hco2])
                have hb2 : o2.length ≤ 258 * (k + 1) := by omega
                clear hco hco2 HCP hol2 hm
                go_wp2_with fail
                go_roundw
                case rel => exact ⟨k + 1, o2, by omega, by first | rfl | (push_cast; rfl), rfl, HO2, hb2, HBA⟩
                case measure => simp [intOf]; omega
    · have hkn : k = len := by omega
      have ql : decide ((k : Int) < (len : Int)) = false := by simp; omega
      have HRES : Hid (ExpS w m l (.returned (.tuple #[.string (bs out), .int .i64 0])) wr) := Lib.hid ⟨HB.out, .inl ⟨out, by
        have := HRT.out
        rw [hkn, ← HL.out, List.drop_length] at this
        rw [← HX.out, ← this]
        rfl, by rw [HL.out, ← hkn]; exact hol, rfl⟩⟩
      clear hkn
      go_wp2_with fail
      go_ret2
      exact HRES.out
end Go.Proofs.Ytboknaakcbjkiaa.Lzt
