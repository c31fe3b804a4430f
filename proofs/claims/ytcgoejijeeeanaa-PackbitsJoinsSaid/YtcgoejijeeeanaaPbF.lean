/- The contracts of the document's Piece and Decode. -/
import Derived.Test.YtcgoejijeeeanaaPbA
namespace Go.Proofs.Ytcgoejijeeeanaa.Pb
open Go.RowKit Go.Proofs.Ytcgoejijeeeanaa.Oct
set_option linter.unusedVariables false

def pieceV (xs : List UInt8) : Value := match piece xs with
  | none => .tuple #[.string (bs []), .string (bs []), .bool false]
  | some (p, k) => .tuple #[.string (bs p), .string (bs (xs.drop k)), .bool true]
theorem pieceV_none {xs : List UInt8} (h : piece xs = none) : pieceV xs = .tuple #[.string (bs []), .string (bs []), .bool false] := by simp [pieceV, h]
theorem pieceV_some {xs p : List UInt8} {k : Nat} (h : piece xs = some (p, k)) : pieceV xs = .tuple #[.string (bs p), .string (bs (xs.drop k)), .bool true] := by simp [pieceV, h]
theorem bs_ne (c : UInt8) (rest : List UInt8) : (bs (c :: rest)).toList.isEmpty = false := by
  rw [bs_toList]; rfl
theorem bs_none : (bs []).toList.isEmpty = true := by
  rw [bs_toList]; rfl
theorem bs_tail (c : UInt8) (rest : List UInt8) (n : Nat) (h : n = rest.length + 1) : (bs (c :: rest)).extract 1 n = bs rest := by
  rw [bs_extract, h]
  simp
set_option maxHeartbeats 400000 in
set_option maxRecDepth 100000 in
theorem rpiece_any (xs : List UInt8) (w : World) (hl : xs.length ≤ 1000000) :
    Calls Try.prog 13 #[.string (bs xs)] w fun e w' => e = .returned (pieceV xs) ∧ Drawn w w' := by
  rcases xs with _ | ⟨c, rest⟩
  · rw [pieceV_none piece_nil]
    have hne := bs_none
    go_enter Try.func13, Try.ntmps13
    go_wp2_with fail
    go_ret3
    exact ⟨rfl, 0, rfl⟩
  · have hne := bs_ne c rest
    have hg : ∀ h, (bs (c :: rest))[0]'h = c := fun h => bs_get (c :: rest) 0 h (by simp)
    have ht := bs_tail c rest (rest.length + 1) rfl
    have hsz : (bs (c :: rest)).size = rest.length + 1 := by rw [bs_size]; rfl
    have hs2 := bs_size rest
    have hb := c.toNat_lt
    have hl' : rest.length ≤ 1000000 := by simp at hl; omega
    clear hl
    have hN : (bs (c :: rest)).toList.isEmpty = false := hne
    rcases Nat.lt_trichotomy c.toNat 128 with h1 | h1 | h1
    · have q : ((c.toNat : Int) == 128) = false := by simp; omega
      have q2 : decide ((c.toNat : Int) < 128) = true := by simp; omega
      by_cases h2 : rest.length ≤ c.toNat
      · rw [pieceV_none (piece_short c rest h1 h2)]
        generalize bs (c :: rest) = S at *
        generalize bs rest = T at *
        generalize rest.length = L at *
        go_enter Try.func13, Try.ntmps13
        go_wp2_with fail
        go_quiet (fail)
        go_wp2_with fail
        go_ret3
        exact ⟨rfl, _, rfl⟩
      · rw [pieceV_some (piece_lit c rest h1 (by omega))]
        have x1 : (bs rest).extract 0 (c.toNat + 1) = bs (rest.take (c.toNat + 1)) := by rw [bs_extract]; simp
        have x2 : (bs rest).extract (c.toNat + 1) rest.length = bs (rest.drop (c.toNat + 1)) := by rw [bs_extract, List.take_of_length_le (by simp)]
        have hd : (c :: rest).drop (c.toNat + 2) = rest.drop (c.toNat + 1) := by simp
        rw [hd]
        generalize bs (c :: rest) = S at *
        generalize bs (rest.take (c.toNat + 1)) = A at *
        generalize bs (rest.drop (c.toNat + 1)) = B at *
        generalize bs rest = T at *
        clear hd
        generalize rest.length = L at *
        have i1 : (c.toNat : Int) + 1 ≤ (L : Int) := by omega
        have j1 : c.toNat + 1 ≤ L := by omega
        go_enter Try.func13, Try.ntmps13
        go_wp2_with fail
        go_quiet (fail)
        go_wp2_with fail
        go_quiet (fail)
        go_wp2_with fail
        go_ret3
        exact ⟨rfl, _, by first | rfl | rw [World.drewN_drewN]⟩
    · rw [pieceV_some (piece_128 c rest h1)]
      have q : ((c.toNat : Int) == 128) = true := by simp; omega
      go_enter Try.func13, Try.ntmps13
      go_wp2_with fail
      go_quiet (fail)
      go_wp2_with fail
      go_ret3
      exact ⟨rfl, _, rfl⟩
    · have q : ((c.toNat : Int) == 128) = false := by simp; omega
      have q2 : decide ((c.toNat : Int) < 128) = false := by simp; omega
      rcases rest with _ | ⟨y, t⟩
      · rw [pieceV_none (piece_one c h1)]
        have hne2 := bs_none
        clear h1
        go_enter Try.func13, Try.ntmps13
        go_wp2_with fail
        go_quiet (fail)
        go_wp2_with fail
        go_ret3
        exact ⟨rfl, _, rfl⟩
      · rw [pieceV_some (piece_run c y t h1)]
        have hne2 := bs_ne y t
        have x1 : (bs (y :: t)).extract 0 1 = bs [y] := by rw [bs_extract]; simp
        have x2 : (bs (y :: t)).extract 1 (y :: t).length = bs t := bs_tail y t _ rfl
        obtain ⟨n, hn⟩ : ∃ n, n = 257 - c.toNat := ⟨_, rfl⟩
        have hnc : (257 : Int) - (c.toNat : Int) = (n : Int) := by omega
        have hn2 : n ≤ 128 := by omega
        have hd : (c :: y :: t).drop 2 = t := rfl
        have hL : 1 ≤ (y :: t).length := by simp
        have hR : ∀ k : Nat, bs (List.replicate k y) ++ bs [y] = bs (List.replicate (k + 1) y) := fun k => by rw [bs_append, ← List.replicate_succ']
        rw [← hn, hd]
        clear hd hn
        generalize bs (c :: y :: t) = S at *
        generalize bs (y :: t) = T at *
        generalize bs t = D at *
        generalize (y :: t).length = L at *
        go_enter Try.func13, Try.ntmps13
        go_wp2_with fail
        go_quiet (fail)
        go_wp2_with fail
        go_loop [7, 8] (fun o i => ∃ k : Nat, k ≤ n ∧ i = .int .i64 (k : Int) ∧ o = .string (bs (List.replicate k y))) (fun _ i => n - (intOf i).toNat)
        case atStart => exact ⟨0, Nat.zero_le _, rfl, rfl⟩
        case round =>
          obtain ⟨k, hk, rfl, rfl⟩ := hrel
          by_cases hlt : k < n
          · have HRk := Lib.hid (hR k)
            have z1 : (bs (List.replicate k y)).size = k := by rw [bs_size, List.length_replicate]
            have z2 : (bs [y]).size = 1 := by rw [bs_size]; rfl
            clear hR
            go_wp2_with fail
            go_round
            case rel => exact ⟨k + 1, hlt, by go_num, by rw [← HRk.out]⟩
            case measure => simp [intOf]; omega
          · have : k = n := by omega
            subst this
            go_wp2_with fail
            go_quiet (fail)
            go_wp2_with fail
            go_ret3
            exact ⟨rfl, _, by first | rfl | rw [World.drewN_drewN]⟩
def decV (R : List UInt8 × Nat × Nat) : Value := .tuple #[.string (bs R.1), .int .i64 (R.2.1 : Int), .int .i64 (R.2.2 : Int)]
theorem rdecode_neg (s : ByteArray) (z : Int) (w : World) (h : z < 0) : Calls Try.prog 9 #[.string s, .int .i64 z] w fun e w' => e = .returned (decV ([], 0, 1)) ∧ Drawn w w' := by
  have hd : decide (z < 0) = true := by simp; omega
  go_enter Try.func9, Try.ntmps9
  go_wp2_with fail
  go_ret3
  exact ⟨rfl, 0, rfl⟩
set_option maxHeartbeats 1000000 in
set_option maxRecDepth 100000 in
theorem rdecode_any (xs : List UInt8) (n : Nat) (w : World) (hl : xs.length ≤ 100000) (hn : n ≤ 9223372036854775807) :
    Calls Try.prog 9 #[.string (bs xs), .int .i64 (n : Int)] w fun e w' => e = .returned (decV (dec n [] 0 xs)) ∧ Drawn w w' := by
  have hd : decide ((n : Int) < 0) = false := by simp
  obtain ⟨R, hR⟩ : ∃ R, R = dec n [] 0 xs := ⟨_, rfl⟩
  have HRR := Lib.hid hR
  rw [← hR]
  have hsz := bs_size xs
  clear hR
  go_enter Try.func9, Try.ntmps9
  go_wp2_with fail
  go_loopw [7, 8] (fun o r wr => ∃ (at_ : Nat) (out : List UInt8), at_ ≤ xs.length ∧ out.length ≤ 128 * at_ ∧ o = .string (bs out) ∧ r = .string (bs (xs.drop at_)) ∧ Drawn w wr ∧ Hid (dec n out at_ (xs.drop at_) = R)) (fun _ r _ => match r with | .string s => s.size | _ => 0)
  case atStart => exact ⟨0, [], Nat.zero_le _, by simp, rfl, rfl, ⟨0, rfl⟩, Lib.hid (by rw [List.drop_zero, HRR.out])⟩
  case round =>
    obtain ⟨at_, out, hat, hob, rfl, rfl, ⟨nq, rfl⟩, HD⟩ := hrel
    have z1 := bs_size out
    have z2 : (bs (xs.drop at_)).size = xs.length - at_ := by rw [bs_size, List.length_drop]
    by_cases hlt : out.length < n
    · have HL : Hid ((xs.drop at_).length ≤ 1000000) := Lib.hid (by rw [List.length_drop]; omega)
      rcases hpc : piece (xs.drop at_) with _ | ⟨pc, k⟩
      · have HV := Lib.hid (pieceV_none hpc)
        have HE := Lib.hid ((HD.out).symm.trans (dec_cut hlt hpc))
        clear hpc HD
        go_wp2_with fail
        refine (rpiece_any (xs.drop at_) _ HL.out).mono ?_
        rintro e w' ⟨rfl, mq, rfl⟩
        rw [HV.out]
        go_wp2_with fail
        go_ret3
        exact ⟨by rw [HE.out]; rfl, nq + mq, by first | rfl | rw [World.drewN_drewN]⟩
      · have HV := Lib.hid (pieceV_some hpc)
        have hk := piece_size hpc
        rw [List.length_drop] at hk
        have z3 := bs_size pc
        have ha := bs_append out pc
        have z4 : (bs (out ++ pc)).size = out.length + pc.length := by rw [bs_size, List.length_append]
        rw [List.drop_drop] at HV
        have z5 : (bs (xs.drop (at_ + k))).size = xs.length - (at_ + k) := by rw [bs_size, List.length_drop]
        by_cases hlg : n < (out ++ pc).length
        · have HE := Lib.hid ((HD.out).symm.trans (dec_long hlt hpc hlg))
          rw [List.length_append] at hlg
          clear hpc HD
          go_wp2_with fail
          refine (rpiece_any (xs.drop at_) _ HL.out).mono ?_
          rintro e w' ⟨rfl, mq, rfl⟩
          rw [HV.out]
          go_wp2_with fail
          go_ret3
          exact ⟨by rw [HE.out]; rfl, nq + mq, by first | rfl | rw [World.drewN_drewN]⟩
        · have HE := Lib.hid ((dec_step (a := at_) hlt hpc (Nat.le_of_not_lt hlg)).symm.trans HD.out)
          rw [List.length_append] at hlg
          rw [List.drop_drop] at HE
          have hlo : (out ++ pc).length = out.length + pc.length := List.length_append
          have HLO := Lib.hid hlo
          clear hpc HD hlo
          go_wp2_with fail
          refine (rpiece_any (xs.drop at_) _ HL.out).mono ?_
          rintro e w' ⟨rfl, mq, rfl⟩
          rw [HV.out]
          go_wp2_with fail
          go_roundw
          case rel => exact ⟨at_ + k, out ++ pc, by omega, by rw [HLO.out]; omega, by first | rfl | rw [ha], rfl, ⟨nq + mq, by first | rfl | rw [World.drewN_drewN]⟩, HE⟩
          case measure => simp [z2, z5]; omega
    · have HE := Lib.hid ((HD.out).symm.trans (dec_done (by omega)))
      have hsub : ((xs.length : Int) - ((xs.length - at_ : Nat) : Int)) = (at_ : Int) := by omega
      clear HD
      go_wp2_with fail
      go_ret3
      exact ⟨by rw [HE.out]; rfl, nq, rfl⟩
end Go.Proofs.Ytcgoejijeeeanaa.Pb
