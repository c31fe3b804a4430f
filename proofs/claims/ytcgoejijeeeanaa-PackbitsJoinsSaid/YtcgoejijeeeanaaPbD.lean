/- The contract of packbits.Decode, whatever the bytes and the number. -/
import Derived.Test.YtcgoejijeeeanaaPbP
namespace Go.Proofs.Ytcgoejijeeeanaa.Pb
open Go.RowKit Go.Proofs.Ytcgoejijeeeanaa.Oct
set_option linter.unusedVariables false

/-- where b[a:] lies -/
def tailA (p : Option Addr) (cap a : Nat) : Option Addr := if cap = a then p else p.map (·.add a)
theorem tail_run (W : World) (p : Option Addr) (len cap a : Nat) (h : a ≤ len) :
    (Instr.slice 22 (.slice p len cap) (some (.int .i64 (a : Int))) none none).run Try.prog W = .ok (.slice (tailA p cap a) (len - a) (cap - a)) W := by
  have ht' : Try.prog.underlying 22 = some (.slice (Try.prog.elem 22)) := by kernel_rfl
  have he : Try.prog.elem 22 = 5 := by kernel_rfl
  have hz : (Go.sizeOf 5).run Try.prog W = .ok 1 W := by
    obtain ⟨i, hi, hs⟩ := Option.map_eq_some_iff.1 Try.sizeByte
    simp [Go.sizeOf, typeInfo, hi, hs]
  rw [run_slice_l W 22 p len cap ht' .i64 _ (by omega) (by omega), he, hz]
  unfold tailA
  simp [Result.andThen, sliced]
theorem tail_row {w : World} {p : Option Addr} {xs : List UInt8} (cap a : Nat) (h : Row w p xs) (hx : xs.length ≤ cap) : Row w (tailA p cap a) (xs.drop a) := by
  intro hp
  rw [List.length_drop] at hp
  obtain ⟨b, off, rfl, hb, hc⟩ := h (by omega)
  have hne : ¬ cap = a := by omega
  refine ⟨b, off + a, by simp [tailA, hne, add_plain], hb, fun i hi => ?_⟩
  rw [List.length_drop] at hi
  rw [Nat.add_assoc, hc (a + i) (by omega)]
  simp
theorem tail_none {p : Option Addr} {cap a : Nat} (h : p = none → cap = 0) (ht : tailA p cap a = none) : cap - a = 0 := by
  unfold tailA at ht
  split at ht
  · omega
  · have := h (by simpa using ht)
    omega
theorem own_shape {w : World} {base n : Nat} {v : Value} {xs : List UInt8} (h : w.ownsRow base 5 1 v n (cellsOf xs)) (hn : xs.length = n) :
    ∃ q c, v = .slice q n c ∧ (q = none → c = 0) ∧ n ≤ c ∧ c ≤ maxLen ∧ Row w q xs := by
  by_cases hv : v = .slice none 0 0
  · have h0 : n = 0 := by
      rcases h.2 with ⟨_, h0⟩ | ⟨g, cap, cur, he, _⟩
      · exact h0
      · rw [hv] at he; cases he
    subst h0
    have : xs = [] := List.eq_nil_of_length_eq_zero hn
    subst this
    exact ⟨none, 0, hv, fun _ => rfl, Nat.le_refl _, by simp [maxLen], fun h => absurd h (by simp)⟩
  · obtain ⟨g, cap, rfl, h1, h2, _, _, h5⟩ := own_form h hv
    exact ⟨_, cap, rfl, fun h => absurd h (by simp), h1, h2, h5⟩
theorem piece_take {l p : List UInt8} {k : Nat} (h : piece l = some (p, k)) : piece (l.take k) = some (p, k) := by
  rcases l with _ | ⟨c, rest⟩
  · simp [piece] at h
  · rcases Nat.lt_trichotomy c.toNat 128 with h1 | h1 | h1
    · by_cases hl : rest.length ≤ c.toNat
      · rw [piece_short c rest h1 hl] at h; cases h
      · rw [piece_lit c rest h1 (by omega)] at h
        injection h with h; injection h with e1 e2
        subst e1; subst e2
        rw [List.take_succ_cons, piece_lit c _ h1 (by simp; omega), List.take_take, Nat.min_self]
    · rw [piece_128 c rest h1] at h
      injection h with h; injection h with e1 e2
      subst e1; subst e2
      rw [List.take_succ_cons, piece_128 c _ h1]
    · rcases rest with _ | ⟨y, t⟩
      · rw [piece_one c h1] at h; cases h
      · rw [piece_run c y t h1] at h
        injection h with h; injection h with e1 e2
        subst e1; subst e2
        rw [List.take_succ_cons, List.take_succ_cons, piece_run c y _ h1]
/-- what Decode answers, and where -/
def DecP (R : List UInt8 × Nat × Nat) (w : World) (e : Ending) (w' : World) : Prop :=
  ∃ q c, e = .returned (.tuple #[.slice q R.1.length c, .int .i64 (R.2.1 : Int), .int .i64 (R.2.2 : Int)]) ∧ Row w' q R.1 ∧ (q = none → c = 0) ∧ Below w.heap.size w w'
theorem DecP.none (k : Nat) {w w' : World} (h : Below w.heap.size w w') : DecP ([], 0, k) w (.returned (.tuple #[.slice none 0 0, .int .i64 0, .int .i64 (k : Int)])) w' :=
  ⟨Option.none, 0, rfl, fun h => absurd h (by simp), fun _ => rfl, h⟩
theorem decode_neg (v : Value) (z : Int) (w : World) (h : z < 0) : Calls Try.prog 8 #[v, .int .i64 z] w (DecP ([], 0, 1) w) := by
  have hd : decide (z < 0) = true := by simp; omega
  go_enter Try.func8, Try.ntmps8
  go_wp2_with fail
  go_ret3
  exact DecP.none 1 (Below.refl _ _)
set_option maxHeartbeats 1000000 in
set_option maxRecDepth 100000 in
theorem decode_any (p : Option Addr) (len cap n : Nat) (xs : List UInt8) (w : World) (hr : Row w p xs) (hx : xs.length = len) (hlc : len ≤ cap) (hcm : cap ≤ maxLen) (hl : len ≤ 100000) (hn : n ≤ 9223372036854775807) :
    Calls Try.prog 8 #[.slice p len cap, .int .i64 (n : Int)] w (DecP (dec n [] 0 xs) w) := by
  have hcm' := Lib.hid hcm
  unfold maxLen at hcm
  have hd : decide ((n : Int) < 0) = false := by simp
  obtain ⟨R, hR⟩ : ∃ R, R = dec n [] 0 xs := ⟨_, rfl⟩
  have HRR := Lib.hid hR
  have HR := Lib.hid hr
  have HX := Lib.hid hx
  rw [← hR]
  clear hr hx hR
  go_enter Try.func8, Try.ntmps8
  go_wp2_with fail
  go_loopw [7, 8] (fun v a wr => ∃ (at_ : Nat) (out : List UInt8) (q : Option Addr) (c : Nat), at_ ≤ len ∧ out.length ≤ 128 * at_ ∧ out.length ≤ n ∧ v = .slice q out.length c ∧ a = .int .i64 (at_ : Int) ∧
    Hid (wr.ownsRow w.heap.size 5 1 (.slice q out.length c) out.length (cellsOf out)) ∧ Hid (Below w.heap.size w wr) ∧ Hid (dec n out at_ (xs.drop at_) = R)) (fun _ a _ => len - (intOf a).toNat)
  case atStart => exact ⟨0, [], none, 0, Nat.zero_le _, by simp, Nat.zero_le _, rfl, rfl, Lib.hid ⟨rfl, .inl ⟨rfl, rfl⟩⟩, Lib.hid (Below.refl _ _), Lib.hid (by rw [List.drop_zero, HRR.out])⟩
  case round =>
    obtain ⟨at_, out, q, c, hat, hob, hon, rfl, rfl, HO, HB, HD⟩ := hrel
    by_cases hlt : out.length < n
    · have hd2 : decide ((out.length : Int) < (n : Int)) = true := by simp; omega
      have hsl := fun W => tail_run W p len cap at_ hat
      have HT := Lib.hid (tail_row cap at_ (HR.out.below HB.out) (by rw [HX.out]; exact hlc))
      have HTL : Hid ((xs.drop at_).length = len - at_) := Lib.hid (by rw [List.length_drop, HX.out])
      rcases hpc : piece (xs.drop at_) with _ | ⟨pc, k⟩
      · have HZ := Lib.hid (szN_none hpc)
        have HE := Lib.hid ((HD.out).symm.trans (dec_cut hlt hpc))
        clear hpc HO HD
        go_wp2_with fail
        refine (pieceSize_any _ _ _ (xs.drop at_) _ (by exact HT.out) HTL.out (by have := hcm'.out; omega)).mono ?_
        rintro e w' ⟨rfl, rfl⟩
        rw [HZ.out]
        go_wp2_with fail
        go_ret3
        rw [HE.out]
        exact DecP.none 2 HB.out
      · have hk := piece_size hpc
        have HZ := Lib.hid (szN_some hpc)
        have hk1 : 1 ≤ k := hk.1
        have hk2 : at_ + k ≤ len := by have := hk.2.1; rw [HTL.out] at this; omega
        have hk3 : pc.length ≤ 128 := hk.2.2
        obtain ⟨b, off, hp, _⟩ := HR.out (by rw [HX.out]; omega)
        subst hp
        have HRM := Lib.hid (row_take (row_drop (HR.out.below HB.out) at_) k)
        have HLM : Hid (((xs.drop at_).take k).length = k) := Lib.hid (by rw [List.length_take, HTL.out]; omega)
        have HPM := Lib.hid (piece_take hpc)
        have hne : ¬ cap = at_ := by omega
        have hcat : cap - at_ ≤ maxLen := by have := hcm'.out; omega
        have HCA := Lib.hid hcat
        have hzk : (k == 0) = false := by simp; omega
        have hle1 : (at_ : Int) + (k : Int) ≤ (cap : Int) := by omega
        have HBS := Lib.hid HB.out.size
        clear hcat hk
        by_cases hlg : n < (out ++ pc).length
        · have HE := Lib.hid ((HD.out).symm.trans (dec_long hlt hpc hlg))
          have hlg' : n < out.length + pc.length := by rwa [List.length_append] at hlg
          clear hpc HD hlg
          go_wp2_with fail
          refine (pieceSize_any _ _ _ (xs.drop at_) _ (by exact HT.out) HTL.out (by have := hcm'.out; omega)).mono ?_
          rintro e w' ⟨rfl, rfl⟩
          rw [HZ.out]
          clear HZ HT
          go_wp2_with fail
          refine (appendPiece_any w.heap.size _ out _ _ _ ((xs.drop at_).take k) pc _ HO.out HBS.out (by exact HRM.out) HLM.out (by omega) HCA.out HPM.out (by omega)).mono ?_
          rintro e w2 ⟨v2, rfl, hown2, hb2⟩
          obtain ⟨q2, c2, rfl, _, _, _, _⟩ := own_shape hown2 rfl
          have hl2 : (out ++ pc).length = out.length + pc.length := List.length_append
          rw [hl2] at *
          have HB2 := Lib.hid (HB.out.trans hb2)
          clear hown2 hb2 HO
          go_wp2_with fail
          go_ret3
          rw [HE.out]
          exact DecP.none 5 HB2.out
        · have HE := Lib.hid ((dec_step (a := at_) hlt hpc (Nat.le_of_not_lt hlg)).symm.trans HD.out)
          have hlg' : out.length + pc.length ≤ n := by rw [List.length_append] at hlg; omega
          clear hpc HD hlg
          go_wp2_with fail
          refine (pieceSize_any _ _ _ (xs.drop at_) _ (by exact HT.out) HTL.out (by have := hcm'.out; omega)).mono ?_
          rintro e w' ⟨rfl, rfl⟩
          rw [HZ.out]
          clear HZ HT
          go_wp2_with fail
          refine (appendPiece_any w.heap.size _ out _ _ _ ((xs.drop at_).take k) pc _ HO.out HBS.out (by exact HRM.out) HLM.out (by omega) HCA.out HPM.out (by omega)).mono ?_
          rintro e w2 ⟨v2, rfl, hown2, hb2⟩
          obtain ⟨q2, c2, rfl, _, _, _, _⟩ := own_shape hown2 rfl
          have hl2 : (out ++ pc).length = out.length + pc.length := List.length_append
          have HB2 := Lib.hid (HB.out.trans hb2)
          have HO2 := Lib.hid hown2
          rw [List.drop_drop] at HE
          obtain ⟨o2, ho2⟩ : ∃ o2, o2 = out ++ pc := ⟨_, rfl⟩
          rw [← ho2] at hl2 HO2 HE ⊢
          clear hown2 hb2 HO ho2
          go_wp2_with fail
          go_roundw
          case rel => exact ⟨at_ + k, o2, q2, c2, hk2, by omega, by omega, by rw [hl2], by go_num, HO2, HB2, HE⟩
          case measure => simp [intOf]; omega
    · have hd2 : decide ((out.length : Int) < (n : Int)) = false := by simp; omega
      have HE := Lib.hid ((HD.out).symm.trans (dec_done (by omega)))
      obtain ⟨q2, c2, hv2, hq2, _, _, hrow⟩ := own_shape HO.out rfl
      injection hv2 with e1 _ e3
      subst e1
      subst e3
      have HQ := Lib.hid hq2
      have HRW := Lib.hid hrow
      clear HD HO hq2 hrow
      go_wp2_with fail
      go_ret3
      rw [HE.out]
      exact ⟨q, c, rfl, HRW.out, HQ.out, HB.out⟩
end Go.Proofs.Ytcgoejijeeeanaa.Pb
