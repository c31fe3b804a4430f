
/- The contract of a decoder's stored: bytes as they stand. -/
import Derived.Test.YtmcjhkdcbblnnaaIgE
namespace Go.Proofs.Ytmcjhkdcbblnnaa.Inf
open Go.RowKit Go.Proofs.Ytmcjhkdcbblnnaa.Oct Go.Proofs.Ytmcjhkdcbblnnaa.Bit Go.Proofs.Ytmcjhkdcbblnnaa.Hf
set_option linter.unusedVariables false
set_option linter.unusedSimpArgs false
set_option maxRecDepth 100000

theorem two_of {L : List Bool} {p : Nat} (h : p + 32 ≤ L.length) : numE true ((L.drop p).take 32) % 65536 = numE true ((L.drop p).take 16) ∧ numE true ((L.drop p).take 32) / 65536 % 65536 = numE true ((L.drop (p + 16)).take 16) := by
  have hl : ((L.drop p).take 32).length = 32 := by rw [List.length_take, List.length_drop]; omega
  have h1 := numE_ext true ((L.drop p).take 32) 0 16 (by omega)
  have h2 := numE_ext true ((L.drop p).take 32) 16 16 (by omega)
  simp only [gsh, if_true, Nat.pow_zero, Nat.div_one, List.drop_zero] at h1 h2
  refine ⟨?_, ?_⟩
  · have e : ((L.drop p).take 32).take 16 = (L.drop p).take 16 := by rw [List.take_take]; rfl
    rw [e] at h1
    exact h1
  · have e : (((L.drop p).take 32).drop 16).take 16 = (L.drop (p + 16)).take 16 := by rw [List.drop_take, List.drop_drop, List.take_take]; rfl
    rw [e] at h2
    exact h2
theorem u16_flip (n : Nat) (h : n < 65536) : bits .xor .u16 (if IntKind.u16.signed = true then -1 else IntKind.u16.max) (n : Int) = ((65535 - n : Nat) : Int) := by
  show IntKind.u16.wrap ((BitVec.ofInt 16 65535 ^^^ BitVec.ofInt 16 (n : Int)).toNat : Int) = _
  have e : (BitVec.ofInt 16 65535 ^^^ BitVec.ofInt 16 (n : Int)).toNat = 65535 - n := by
    have h1 : BitVec.ofInt 16 65535 = BitVec.allOnes 16 := by decide
    have h2 : BitVec.ofInt 16 (n : Int) = BitVec.ofNat 16 n := BitVec.ofInt_natCast 16 n
    rw [h1, h2, BitVec.allOnes_xor, BitVec.toNat_not, BitVec.toNat_ofNat]
    omega
  rw [e, IntWalk.u16_in _ (by omega)]
theorem bytesR_one (L : List Bool) (most n at_ : Nat) (out : List UInt8) : bytesR L most (n + 1) at_ out = (numR L at_ 8).then fun c a => if most ≤ out.length then .error 8 else bytesR L most n a (out ++ [UInt8.ofNat c]) := rfl
theorem num_end {L : List Bool} {a n m b : Nat} (h : numR L a n = .ok (m, b)) : a + n ≤ L.length := by
  unfold numR at h
  split at h
  · assumption
  · cases h
def BytSt (wb : World) (K : Kon) (v : Value) (F : Option Fix) (n : Nat) (X : R (List UInt8)) (wr : World) : Prop :=
  ∃ a v2 out, De wr K a v2 out F ∧ Only (MineE K v) wb wr ∧ (∀ k, v2.ownBlock = some k → v.ownBlock = some k ∨ wb.heap.size ≤ k) ∧ bytesR (bitsOf true K.xs) K.most n a out = X
set_option maxHeartbeats 4000000 in
theorem stored_any (w : World) (K : Kon) (a : Nat) (v : Value) (out : List UInt8) (F : Option Fix) (h : De w K a v out F) :
    Calls Try.prog 38 #[.pointer (some ⟨K.d, 0, none⟩)] w (Res w K v F (storedR (bitsOf true K.xs) K.most a out)) := by
  obtain ⟨X, hX⟩ : ∃ X, X = storedR (bitsOf true K.xs) K.most a out := ⟨_, rfl⟩
  rw [← hX]
  have hlo := h.lo
  have hlt := h.lt
  have k0 := h.c0
  have HAL := Lib.hid (align_any _ _ _ _ _ _ _ h.rd)
  have H := Lib.hid h
  have HX := Lib.hid hX
  have hbl := bitsOf_length true K.xs
  have HBL := Lib.hid hbl
  clear h hX hbl
  go_enter Try.func38, Try.ntmps38
  go_wp2_with fail
  refine HAL.out.mono ?_
  rintro e w1 ⟨rfl, hr1, ho1, hz1⟩
  have hD1 := H.out.moved ho1 hr1
  obtain ⟨p, hp⟩ : ∃ p, p = 8 * ((a + 7) / 8) := ⟨_, rfl⟩
  have hp2 : (a + 7) / 8 * 8 = p := by omega
  rw [← hp] at hD1
  have HO1 := Lib.hid (only_gr (v := v) ho1)
  have d0 := hD1.c0
  have HD1 := Lib.hid hD1
  clear hr1 ho1 hz1 hD1 k0
  rcases hx : numR (bitsOf true K.xs) p 32 with c | ⟨m, b⟩
  · have HRD := Lib.hid (read_bad K.gr K.p K.cap K.xs p 32 c (by omega) w1 HD1.out.rd hx)
    have hn : ¬ p + 32 ≤ (bitsOf true K.xs).length := by
      intro hh; unfold numR at hx; rw [if_pos hh] at hx; cases hx
    have HRES : Hid (∀ w2, Only (· = K.gr) w1 w2 → Res w K v F X (.returned (.int .i64 2)) w2) := Lib.hid fun w2 ho2 =>
      .inr ⟨2, by rw [HX.out]; unfold storedR twoR; rw [hp2, if_neg hn]; rfl, by decide, rfl, HO1.out.trans (only_gr ho2)⟩
    clear hx hn
    go_wp2_with fail
    refine HRD.out.mono ?_
    rintro e w2 ⟨rfl, ho2⟩
    have HRES2 := Lib.hid (HRES.out w2 ho2)
    clear ho2
    go_wp2_with fail
    go_ret
    exact HRES2.out
  · have HRD := Lib.hid (read_ok K.gr K.p K.cap K.xs p 32 m b (by omega) w1 HD1.out.rd hx)
    have hend := num_end hx
    obtain ⟨hm, hb⟩ := num_lt hx (by omega)
    have hm2 : m < 4294967296 := hm
    obtain ⟨t1, t2⟩ := two_of hend
    have hme : m = numE true (((bitsOf true K.xs).drop p).take 32) := by unfold numR at hx; rw [if_pos hend] at hx; cases hx; rfl
    rw [← hme] at t1 t2
    have HEQ : Hid (X = if m % 65536 + m / 65536 % 65536 = 65535 then bytesR (bitsOf true K.xs) K.most (m % 65536) b out else .error 3) := Lib.hid (by
      rw [HX.out]; unfold storedR twoR; rw [hp2, if_pos hend, R.then_ok, t1, t2, hb])
    obtain ⟨n, hn⟩ : ∃ n, n = m % 65536 := ⟨_, rfl⟩
    obtain ⟨q, hq⟩ : ∃ q, q = m / 65536 := ⟨_, rfl⟩
    have hq2 : m / 65536 % 65536 = q := by omega
    rw [hq2, ← hn] at HEQ
    have qw : IntKind.u16.wrap (m : Int) = (n : Int) := by
      have : IntKind.u16.wrap (m : Int) = (m : Int) % 65536 := rfl
      omega
    have qq : (m : Int) / 65536 = (q : Int) := by omega
    have hn6 : n < 65536 := by omega
    have hq6 : q < 65536 := by omega
    have qx := u16_flip n hn6
    clear hx hm t1 t2 hme hend hb hn hq hq2
    by_cases hnm : n + q = 65535
    · have qd : ((q : Int) != ((65535 - n : Nat) : Int)) = false := by simp; omega
      have HS : Hid (∀ w2, De w2 K b v out F → Only (MineE K v) w w2 → BytSt w K v F n X w2) := Lib.hid fun w2 hd ho => ⟨b, v, out, hd, ho, fun k hk => .inl hk, by rw [HEQ.out, if_pos hnm]⟩
      clear hnm
      go_wp2_with fail
      refine HRD.out.mono ?_
      rintro e w2 ⟨rfl, hr2, ho2⟩
      have HST := Lib.hid (HS.out w2 (HD1.out.moved ho2 hr2) (HO1.out.trans (only_gr ho2)))
      clear hr2 ho2
      go_wp2_with fail
      go_loopw [7, 8, 9, 36] (fun _ _ _ i wr => ∃ j : Nat, j ≤ n ∧ i = .int .u16 (j : Int) ∧ Hid (BytSt w K v F (n - j) X wr)) (fun _ _ _ i _ => n - (intOf i).toNat)
      case atStart => exact ⟨0, by omega, rfl, HST⟩
      case round =>
        obtain ⟨j, hj, rfl, HB⟩ := hrel
        obtain ⟨a2, v2, out2, hD, ho, hv2, hrun⟩ := HB.out
        by_cases hjn : j < n
        · have ql : decide ((j : Int) < (n : Int)) = true := by simpa using hjn
          rw [show n - j = (n - (j + 1)) + 1 from by omega, bytesR_one] at hrun
          have c0 := hD.c0
          have HD := Lib.hid hD
          have HO := Lib.hid ho
          have HV2 := Lib.hid hv2
          rcases hx : numR (bitsOf true K.xs) a2 8 with c | ⟨c, b2⟩
          · have HRD8 := Lib.hid (read_bad K.gr K.p K.cap K.xs a2 8 c (by omega) wr hD.rd hx)
            have hc2 := num_err hx
            have HRES : Hid (∀ w3, Only (· = K.gr) wr w3 → Res w K v F X (.returned (.int .i64 2)) w3) := Lib.hid fun w3 ho3 =>
              .inr ⟨2, by rw [← hrun, hx, hc2]; rfl, by decide, rfl, ho.trans (only_gr ho3)⟩
            clear hx hrun hD ho hv2
            go_wp2_with fail
            refine HRD8.out.mono ?_
            rintro e w3 ⟨rfl, ho3⟩
            have HRES2 := Lib.hid (HRES.out w3 ho3)
            clear ho3
            go_wp2_with fail
            go_ret
            exact HRES2.out
          · have HRD8 := Lib.hid (read_ok K.gr K.p K.cap K.xs a2 8 c b2 (by omega) wr hD.rd hx)
            obtain ⟨hc8, hb2⟩ := num_lt hx (by omega)
            have hc256 : c < 256 := hc8
            rw [hx, R.then_ok] at hrun
            have hby : (((UInt8.ofNat c).toNat : Nat) : Int) = (c : Int) := by rw [UInt8.toNat_ofNat']; omega
            have hw8 : IntKind.u8.wrap (c : Int) = (c : Int) := by rw [IntKind.wrap_u8]; omega
            have HBY := Lib.hid hby
            have HRUN := Lib.hid hrun
            clear hx hrun hD ho hv2 hby hc8 hb2
            go_wp2_with fail
            refine HRD8.out.mono ?_
            rintro e w3 ⟨rfl, hr3, ho3⟩
            have hD3 := HD.out.moved ho3 hr3
            have HO3 := Lib.hid (HO.out.trans (only_gr ho3))
            have HL := literal_any w3 K b2 v2 out2 F (UInt8.ofNat c) hD3
            rw [HBY.out] at HL
            have HLIT := Lib.hid HL
            clear HL hr3 ho3 hD3
            by_cases hfull : K.most < out2.length + 1
            · have HRES : Hid (∀ w4, Only (MineE K v2) w3 w4 → Res w K v F X (.returned (.int .i64 8)) w4) := Lib.hid (by
                intro w4 h4
                have := HRUN.out
                rw [if_pos (by omega)] at this
                exact .inr ⟨8, this.symm, by decide, rfl, only_more HO3.out HV2.out h4⟩)
              go_wp2_with fail
              refine HLIT.out.mono ?_
              intro e w4 hL
              unfold LitP at hL
              rw [if_pos (by simpa using hfull)] at hL
              obtain ⟨rfl, ho4⟩ := hL
              have HRES2 := Lib.hid (HRES.out w4 ho4)
              clear ho4
              go_wp2_with fail
              go_ret
              exact HRES2.out
            · have HNX : Hid (bytesR (bitsOf true K.xs) K.most (n - (j + 1)) b2 (out2 ++ [UInt8.ofNat c]) = X) := Lib.hid (by
                have := HRUN.out
                rwa [if_neg (by omega)] at this)
              go_wp2_with fail
              refine HLIT.out.mono ?_
              intro e w4 hL
              unfold LitP at hL
              rw [if_neg (by simpa using hfull)] at hL
              obtain ⟨rfl, v4, hD4, ho4, hv4⟩ := hL
              have HN : Hid (BytSt w K v F (n - (j + 1)) X w4) := Lib.hid ⟨b2, v4, _, hD4, only_more HO3.out HV2.out ho4, fun k hk => by
                rcases hv4 k hk with e | e
                · exact HV2.out k e
                · exact .inr (Nat.le_trans HO3.out.2.2.2.1 e), HNX.out⟩
              clear hD4 ho4 hv4
              go_wp2_with fail
              go_roundw
              case rel => exact ⟨j + 1, by omega, by first | rfl | (push_cast; rfl), HN⟩
              case measure => simp [intOf]; omega
        · have hje : j = n := by omega
          subst hje
          have ql : decide ((j : Int) < (j : Int)) = false := by simp
          rw [Nat.sub_self] at hrun
          have HRES : Hid (Res w K v F X (.returned (.int .i64 0)) wr) := Lib.hid (.inl ⟨out2, a2, hrun.symm, rfl, v2, hD, ho, hv2⟩)
          clear hrun hD ho hv2 hjn
          go_wp2_with fail
          go_ret
          exact HRES.out
    · have qd : ((q : Int) != ((65535 - n : Nat) : Int)) = true := by simp; omega
      have HRES : Hid (∀ w2, Only (· = K.gr) w1 w2 → Res w K v F X (.returned (.int .i64 3)) w2) := Lib.hid fun w2 ho2 =>
        .inr ⟨3, by rw [HEQ.out, if_neg hnm], by decide, rfl, HO1.out.trans (only_gr ho2)⟩
      clear hnm
      go_wp2_with fail
      refine HRD.out.mono ?_
      rintro e w2 ⟨rfl, hr2, ho2⟩
      have HRES2 := Lib.hid (HRES.out w2 ho2)
      clear hr2 ho2
      go_wp2_with fail
      go_ret
      exact HRES2.out
end Go.Proofs.Ytmcjhkdcbblnnaa.Inf
