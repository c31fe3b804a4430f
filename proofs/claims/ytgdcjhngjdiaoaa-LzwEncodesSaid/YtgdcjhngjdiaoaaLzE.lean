
/- The contracts of decode, Decode and DecodeOld. -/
import Derived.Test.YtgdcjhngjdiaoaaLzQ
namespace Go.Proofs.Ytgdcjhngjdiaoaa.Lz
open Go.RowKit Go.Proofs.Ytgdcjhngjdiaoaa.Oct Go.Proofs.Ytgdcjhngjdiaoaa.Bit
set_option linter.unusedVariables false
set_option linter.unusedSimpArgs false
set_option maxRecDepth 100000

theorem produce_bad (w : World) (d m : Nat) (v : Value) (out : List UInt8) (sp : List (Nat × Nat)) (la ll c : Nat) (s : St) (h : Dc w d m v out sp la ll) (hI : DInv out sp la ll s) (hb : out.length ≤ 10000000)
    (h6 : c ≠ 256) (h7 : c ≠ 257) (hc : c < 4096) (hst : step s c = none) :
    Calls Try.prog 36 #[.pointer (some ⟨d, 0, none⟩), .int .u32 (c : Int)] w fun e w' => e = .returned (.bool false) ∧ DcT w d m v out (addS sp la ll) la ll w' := by
  have hla := hI.low
  have hll : ll ≤ out.length := by
    rcases Nat.eq_zero_or_pos ll with h0 | h0
    · omega
    · have := (hI.fin h0).1; omega
  have h258 : 258 ≤ c := by
    rcases Nat.lt_or_ge c 256 with hlt | hge
    · rw [hI.byte hlt] at hst; cases hst
    · omega
  refine produce_none w d m v out sp la ll c h hI.top (by omega) (by omega) (by omega) h258 hc ?_
  rcases hn : (addS sp la ll)[c - 258]? with _ | ⟨a, l⟩
  · rfl
  · obtain ⟨_, _, _, x, _, hs2⟩ := hI.some_ h258 hc hn
    rw [hs2] at hst; cases hst
theorem produce_good (w : World) (d m : Nat) (v : Value) (out : List UInt8) (sp : List (Nat × Nat)) (la ll c : Nat) (s s' : St) (t : List UInt8) (h : Dc w d m v out sp la ll) (hI : DInv out sp la ll s) (hb : out.length ≤ 10000000)
    (h6 : c ≠ 256) (h7 : c ≠ 257) (hc : c < 4096) (hst : step s c = some (s', t)) :
    Calls Try.prog 36 #[.pointer (some ⟨d, 0, none⟩), .int .u32 (c : Int)] w fun e w' => e = .returned (.bool true) ∧ ∃ sp' la' ll', DInv (out ++ t) sp' la' ll' s' ∧ t.length ≤ out.length + 1 ∧ DcT w d m v (out ++ t) sp' la' ll' w' := by
  have hla := hI.low
  have hll : ll ≤ out.length := by
    rcases Nat.eq_zero_or_pos ll with h0 | h0
    · omega
    · have := (hI.fin h0).1; omega
  rcases Nat.lt_or_ge c 256 with hlt | hge
  · rw [hI.byte hlt] at hst
    injection hst with e
    injection e with e1 e2
    subst e1; subst e2
    have hx : (UInt8.ofNat c).toNat = c := by rw [UInt8.toNat_ofNat']; omega
    have hp := produce_byte w d m v out sp la ll (UInt8.ofNat c) h hI.top (by omega) (by omega) (by omega)
    rw [hx] at hp
    refine hp.mono ?_
    rintro e w' ⟨rfl, hT⟩
    exact ⟨rfl, _, _, _, hI.next (t := [UInt8.ofNat c]) (by simp), by simp, hT⟩
  · have h258 : 258 ≤ c := by omega
    rcases hn : (addS sp la ll)[c - 258]? with _ | ⟨a, l⟩
    · rw [hI.none h258 hn] at hst; cases hst
    · obtain ⟨h1, h2, h3, x, hx, hs2⟩ := hI.some_ h258 hc hn
      rw [hs2] at hst
      injection hst with e
      injection e with e1 e2
      subst e1; subst e2
      have hlen : ((out.drop a).take (l - 1) ++ [x]).length = l := by simp; omega
      refine (produce_some w d m v out sp la ll c a l x h hI.top (by omega) (by omega) (by omega) h258 hc hn h1 h2 h3 hx).mono ?_
      rintro e w' ⟨rfl, hT⟩
      have hN := hI.next (t := (out.drop a).take (l - 1) ++ [x]) (by simp)
      rw [hlen] at hN
      exact ⟨rfl, _, _, _, hN, by rw [hlen]; omega, hT⟩
def decR (old : Bool) (bits : List Bool) (n : Int) : List UInt8 × Nat := if n < 0 then ([], 1) else run old bits n.toNat 0 s0 []
/-- so many bytes, or the error -/
def LdP (w : World) (res : List UInt8 × Nat) (e : Ending) (w' : World) : Prop :=
  Below w.heap.size w w' ∧ ∃ q cap, e = .returned (.tuple #[.slice q res.1.length cap, .int .i64 (res.2 : Int)]) ∧ Row w' q res.1 ∧ res.1.length ≤ cap ∧ cap ≤ maxLen ∧ (q = none → cap = 0)
theorem LdP.nil {w w' : World} (hb : Below w.heap.size w w') (k : Nat) : LdP w ([], k) (.returned (.tuple #[.slice none 0 0, .int .i64 (k : Int)])) w' :=
  ⟨hb, none, 0, rfl, fun h => absurd h (by simp), by simp, by simp [maxLen], fun _ => rfl⟩
theorem Only.mineD {w w' : World} {d m : Nat} {v : Value} (h : Only (MineD d m v) w w') (hm : m < w.heap.size) (hd : m ≤ d) (hv : ∀ k, v.ownBlock = some k → d < k) : Below m w w' :=
  h.below (by omega) (fun k hk e => by
    rcases e with e | e | e
    · omega
    · omega
    · have := hv k e; omega)
theorem okR_yes {wd len a : Nat} (h1 : wd ≤ 12) (h : a + wd ≤ len) : okR (wd : Int) len a = true := by
  unfold okR cntB
  simp
  omega
theorem okR_no {wd len a : Nat} (h : len < a + wd) : okR (wd : Int) len a = false := by
  unfold okR cntB
  simp
  omega
theorem next_code (old : Bool) (xs : List UInt8) (a wd : Nat) (h : a + wd ≤ 8 * xs.length) : nextV old xs a wd = codeAt old (bitsOf old xs) a wd := by
  unfold nextV peekV codeAt
  rw [List.take_append_of_le_length (by rw [List.length_drop, bitsOf_length]; omega)]

/-- a decoder at work: the bits read so far, the bytes produced so far -/
def DecSt (w : World) (xs : List UInt8) (old : Bool) (N : Nat) (R : List UInt8 × Nat) (g : Nat) (q : Option Addr) (cap1 : Nat) (m : Nat) (wr : World) : Prop :=
  ∃ (a : Nat) (s : St) (out : List UInt8) (sp : List (Nat × Nat)) (la ll : Nat) (v : Value), Rd wr g q cap1 xs a old ∧ Dc wr (m + 1) m v out sp la ll ∧ DInv out sp la ll s ∧ Below w.heap.size w wr ∧
    (∀ k, v.ownBlock = some k → m + 1 < k) ∧ out.length ≤ 3000000 ∧ run old (bitsOf old xs) N a s out = R
def posOf (w : World) (g : Nat) : Nat := match w.cell? ⟨g, 1, none⟩ with
  | some v => (intOf v).toNat
  | none => 0
theorem posOf_rd {w : World} {g : Nat} {p : Option Addr} {cap : Nat} {xs : List UInt8} {at_ : Nat} {low : Bool} (h : Rd w g p cap xs at_ low) : posOf w g = at_ := by
  unfold posOf; rw [h.c1]; simp [intOf]
theorem DecSt.next {w w2 w3 : World} {xs : List UInt8} {old : Bool} {N : Nat} {R : List UInt8 × Nat} {g : Nat} {q : Option Addr} {cap1 m a la ll la' ll' : Nat} {s' : St} {out out' : List UInt8} {sp sp' : List (Nat × Nat)} {v : Value}
    (hR : Rd w2 g q cap1 xs a old) (hD : Dc w2 (m + 1) m v out sp la ll) (hB : Below w.heap.size w w2) (hg : g < m) (hm : w.heap.size ≤ m) (hv : ∀ k, v.ownBlock = some k → m + 1 < k)
    (hT : DcT w2 (m + 1) m v out' sp' la' ll' w3) (hI : DInv out' sp' la' ll' s') (hl : out'.length ≤ 3000000) (hrun : run old (bitsOf old xs) N a s' out' = R) : DecSt w xs old N R g q cap1 m w3 ∧ posOf w3 g = a := by
  obtain ⟨v3, hD3, ho3, hv3⟩ := hT
  have hlt := hD.lt
  have hb := Only.mineD ho3 (by omega) (by omega) hv
  have hR3 := hR.below hb hg
  refine ⟨⟨a, s', out', sp', la', ll', v3, hR3, hD3, hI, hB.trans (hb.mono hm), fun k hk => ?_, hl, hrun⟩, posOf_rd hR3⟩
  rcases hv3 k hk with h | h
  · exact hv k h
  · omega

set_option maxHeartbeats 2000000 in
theorem decode_any (p : Option Addr) (len cap : Nat) (xs : List UInt8) (n : Int) (old : Bool) (w : World) (hr : Row w p xs) (hx : xs.length = len) (hnil : p = none → cap = 0) (hl : len ≤ 100000) (hn : n ≤ 1000000) :
    Calls Try.prog 18 #[.slice p len cap, .int .i64 n, .bool old] w (LdP w (decR old (bitsOf old xs) n)) := by
  by_cases hneg : n < 0
  · have hres : decR old (bitsOf old xs) n = ([], 1) := by unfold decR; rw [if_pos hneg]
    rw [hres]
    clear hres hr hx hnil
    go_enter Try.func18, Try.ntmps18
    go_wp2_with fail
    go_ret2
    exact LdP.nil (Below.refl _ _) 1
  · obtain ⟨N, rfl⟩ : ∃ N : Nat, n = (N : Int) := ⟨n.toNat, by omega⟩
    have hres : decR old (bitsOf old xs) (N : Int) = run old (bitsOf old xs) N 0 s0 [] := by unfold decR; rw [if_neg hneg]; rfl
    rw [hres]
    obtain ⟨R, hR0⟩ : ∃ R, R = run old (bitsOf old xs) N 0 s0 [] := ⟨_, rfl⟩
    rw [← hR0]
    have HR0 := Lib.hid hR0
    have hnr := newReader_any p len cap xs old w hr hx hnil (by omega)
    have HNR := Lib.hid hnr
    have HX := Lib.hid hx
    have hbl := bitsOf_length old xs
    have HBL := Lib.hid hbl
    have hmk := @run_makeMap Try.prog
    have hd0 : decide ((N : Int) < 0) = false := by simp
    have hN : N ≤ 1000000 := by omega
    clear hres hr hx hnil hnr hneg hbl hR0 hn
    go_enter Try.func18, Try.ntmps18
    go_wp2_with fail
    refine HNR.out.mono ?_
    rintro e w1 ⟨hb1, g, q, cap1, rfl, hg, hR, hq⟩
    have hgl := hR.lt
    have hz1 := hb1.size
    obtain ⟨wd, hwd⟩ : ∃ wd, wd = (w1.alloc (.map #[] 0)).alloc (.cells #[.slice none 0 0, .map (some w1.heap.size), .int .i64 0, .int .i64 0] 68) := ⟨_, rfl⟩
    have hst : DecSt w xs old N R g q cap1 w1.heap.size wd := by
      have hbd : Below w1.heap.size w1 wd := by rw [hwd]; exact ((Below.refl _ w1).alloc (Nat.le_refl _) _).alloc (by simp) _
      have hsz : wd.heap.size = w1.heap.size + 2 := by rw [hwd]; simp
      refine ⟨0, s0, [], [], 0, 0, .slice none 0 0, hR.below hbd hgl, ⟨?_, ?_, ?_, (fun e => by cases e), (fun e => by cases e), by omega⟩, DInv.start 0 [] (Nat.le_refl _), hb1.trans (hbd.mono hz1), (fun k hk => by cases hk), by simp, HR0.out.symm⟩
      · rw [hwd]
        show ((w1.heap.push _).push _)[w1.heap.size + 1]? = _
        have e : w1.heap.size + 1 = (w1.heap.push (Obj.map #[] 0)).size := by simp
        rw [e, Array.getElem?_push_size]
        rfl
      · exact World.ownsRow_nil wd 0 5 1
      · rw [hwd]
        exact (MapS.made w1).only (S := fun _ => False) (Only.of_below ((Below.refl _ _).alloc (Nat.le_refl _) _)) (fun e => e)
    have HST := Lib.hid hst
    have HWD := Lib.hid hwd
    have HG := Lib.hid hg
    clear hR hb1 hq hg hst hwd
    go_wp2_with fail
    rw [← HWD.out]
    go_loopw [10, 11] (fun _ _ wr => DecSt w xs old N R g q cap1 w1.heap.size wr) (fun _ _ wr => 8 * len - posOf wr g)
    case atStart => exact HST.out
    case round =>
      obtain ⟨a, s, out, sp, la, ll, v, hR, hD, hI, hB, hv, ho, hrun⟩ := hrel
      obtain ⟨pv, pc, rfl, hc1, hc2, hnv, hrow⟩ := hD.form
      unfold maxLen at hc2
      have k0 := hD.c0
      have hpos := posOf_rd hR
      have hab := hR.2.2.1
      by_cases hlt : out.length < N
      · have hds : decide ((out.length : Int) < (N : Int)) = true := by simp; omega
        have HRd := Lib.hid hR
        have HD := Lib.hid hD
        have HB := Lib.hid hB
        have HP := Lib.hid hpos
        have HO := Lib.hid hv
        have HRun := Lib.hid hrun
        clear hR hD hB hpos hv hrun hrow hnv
        go_wp2_with fail
        refine (codes_any _ _ _ _ _ _ _ _ HD.out (by have := hI.top; omega)).mono ?_
        rintro e w' ⟨rfl, rfl⟩
        go_wp2_with fail
        refine (width_any (258 + sp.length) old _ (by have := hI.top; omega)).mono ?_
        rintro e w' ⟨rfl, rfl⟩
        obtain ⟨wd, hwd⟩ : ∃ wd, wd = widN (258 + sp.length) old := ⟨_, rfl⟩
        rw [← hwd]
        have hwb := widN_bd (258 + sp.length) old
        rw [← hwd] at hwb
        obtain ⟨hw9, hw12⟩ := hwb
        have htab : widN (258 + s.tab.length) old = wd := by rw [hwd, hI.len]
        have HTAB := Lib.hid htab
        clear hwd htab
        by_cases hok : a + wd ≤ 8 * xs.length
        · have hor := okR_yes hw12 hok
          have e1 : readV (wd : Int) old xs a = ((codeAt old (bitsOf old xs) a wd : Nat) : Int) := by
            unfold readV; rw [hor, ← next_code old xs a wd hok]; rfl
          have e2 : readE (wd : Int) (8 * xs.length) a = 0 := by unfold readE; rw [hor]; rfl
          have e3 : readA (wd : Int) (8 * xs.length) a = a + wd := by unfold readA; rw [hor]; rfl
          have hc4 := codeAt_lt old (bitsOf old xs) a wd hw12
          obtain ⟨c, hc⟩ : ∃ c, c = codeAt old (bitsOf old xs) a wd := ⟨_, rfl⟩
          rw [← hc] at e1 hc4
          have hrd := read_any _ _ _ _ _ _ _ (wd : Int) HRd.out
          unfold ReadP at hrd
          rw [e1, e2, e3] at hrd
          have HRD := Lib.hid hrd
          have HC := Lib.hid hc
          clear hrd e1 e2 e3 hor hc
          go_wp2_with fail
          refine HRD.out.mono ?_
          rintro e w2 ⟨rfl, hR2, ho2, hz2⟩
          have hD2 : Dc w2 (w1.heap.size + 1) w1.heap.size (.slice pv out.length pc) out sp la ll :=
            HD.out.only ho2 (by omega) (by omega) (fun k hk e => by have := HO.out k hk; omega)
          have hB2 := HB.out.trans (ho2.below HB.out.size (fun k hk e => by have := HG.out; omega))
          have HR2 := Lib.hid hR2
          have HD2 := Lib.hid hD2
          have HB2 := Lib.hid hB2
          clear hR2 hD2 hB2 ho2 hz2
          by_cases h7 : c = 257
          · have q7 : ((c : Int) == 257) = true := by simp; omega
            have hres : R = ([], 2) := by
              rw [← HRun.out]
              exact run_end hlt (by rw [HTAB.out, ← HC.out]; exact h7)
            have HRES := Lib.hid hres
            clear h7 hres
            go_wp2_with fail
            go_ret2
            rw [HRES.out]
            exact LdP.nil HB2.out 2
          · have q7 : ((c : Int) == 257) = false := by simp; omega
            have hbl : a + widN (258 + s.tab.length) old ≤ (bitsOf old xs).length := by rw [HTAB.out, HBL.out]; exact hok
            by_cases h6 : c = 256
            · have q6 : ((c : Int) == 256) = true := by simp; omega
              have hstep : run old (bitsOf old xs) N (a + wd) s0 (out ++ []) = R := by
                rw [← HRun.out, run_step (s' := s0) (t := []) hlt hbl (by rw [HTAB.out, ← HC.out]; exact h7) (by rw [HTAB.out, ← HC.out, h6]; exact step_clear s), HTAB.out]
              rw [List.append_nil] at hstep
              have HS := Lib.hid hstep
              clear hstep h6 h7 hbl
              go_wp2_with fail
              refine (reset_any _ _ _ _ _ _ _ _ HD2.out).mono ?_
              rintro e w3 ⟨rfl, hT⟩
              have hnx := DecSt.next HR2.out HD2.out HB2.out hgl hz1 HO.out hT (DInv.start 0 out (Nat.zero_le _)) ho HS.out
              have HNX := Lib.hid hnx
              clear hnx hT
              go_wp2_with fail
              go_roundw
              case rel => exact HNX.out.1
              case measure => rw [HNX.out.2, HP.out]; rw [HX.out] at hok; omega
            · have q6 : ((c : Int) == 256) = false := by simp; omega
              rcases hst : step s c with _ | ⟨s', t⟩
              · have hres : R = ([], 6) := by
                  rw [← HRun.out]
                  exact run_bad hlt hbl (by rw [HTAB.out, ← HC.out]; exact h7) (by rw [HTAB.out, ← HC.out]; exact hst)
                have HRES := Lib.hid hres
                have hpb := produce_bad _ _ _ _ _ _ _ _ c s HD2.out hI (by omega) h6 h7 hc4 hst
                have HPB := Lib.hid hpb
                clear hres hpb hst h6 h7 hbl
                go_wp2_with fail
                refine HPB.out.mono ?_
                rintro e w3 ⟨rfl, v3, _, ho3, _⟩
                go_wp2_with fail
                go_ret2
                rw [HRES.out]
                exact LdP.nil (HB2.out.trans ((Only.mineD ho3 (by have := HD2.out.lt; omega) (by omega) HO.out).mono hz1)) 6
              · have hstep : run old (bitsOf old xs) N (a + wd) s' (out ++ t) = R := by
                  rw [← HRun.out, run_step (s' := s') (t := t) hlt hbl (by rw [HTAB.out, ← HC.out]; exact h7) (by rw [HTAB.out, ← HC.out]; exact hst), HTAB.out]
                have HS := Lib.hid hstep
                have hpg := produce_good _ _ _ _ _ _ _ _ c s s' t HD2.out hI (by omega) h6 h7 hc4 hst
                have HPG := Lib.hid hpg
                clear hstep hpg hst h6 h7 hbl
                go_wp2_with fail
                refine HPG.out.mono ?_
                rintro e w3 ⟨rfl, sp', la', ll', hI', htl, hT⟩
                have hnx := DecSt.next HR2.out HD2.out HB2.out hgl hz1 HO.out hT hI' (by rw [List.length_append]; omega) HS.out
                have HNX := Lib.hid hnx
                clear hnx hT hI' htl
                go_wp2_with fail
                go_roundw
                case rel => exact HNX.out.1
                case measure => rw [HNX.out.2, HP.out]; rw [HX.out] at hok; omega
        · have hor := okR_no (wd := wd) (len := 8 * xs.length) (a := a) (by omega)
          have e2 : readE (wd : Int) (8 * xs.length) a = 2 := by
            unfold readE cntB; rw [hor, if_neg (by decide), if_pos (by simp; omega)]
          have e1 : readV (wd : Int) old xs a = 0 := by unfold readV; rw [hor]; rfl
          have hres : R = ([], 2) := by
            rw [← HRun.out]
            exact run_cut hlt (by rw [HTAB.out, HBL.out]; omega)
          have hrd := read_any _ _ _ _ _ _ _ (wd : Int) HRd.out
          unfold ReadP at hrd
          rw [e1, e2] at hrd
          have HRD := Lib.hid hrd
          have HRES := Lib.hid hres
          clear hrd e1 e2 hor hres
          go_wp2_with fail
          refine HRD.out.mono ?_
          rintro e w2 ⟨rfl, _, ho2, _⟩
          go_wp2_with fail
          go_ret2
          rw [HRES.out]
          exact LdP.nil (HB.out.trans (ho2.below HB.out.size (fun k hk e => by have := HG.out; omega))) 2
      · have hds : decide ((out.length : Int) < (N : Int)) = false := by simp; omega
        by_cases hgt : N < out.length
        · have hd2 : decide ((N : Int) < (out.length : Int)) = true := by simp; omega
          have hres : R = ([], 5) := by rw [← hrun]; exact run_long hgt
          have HRES := Lib.hid hres
          have HB := Lib.hid hB
          clear hR hD hB hpos hv hrun hrow hnv hres
          go_wp2_with fail
          go_ret2
          rw [HRES.out]
          exact LdP.nil HB.out 5
        · have hd2 : decide ((N : Int) < (out.length : Int)) = false := by simp; omega
          have hres : R = (out, 0) := by rw [← hrun]; exact run_done (by omega)
          have HRES := Lib.hid hres
          have HB := Lib.hid hB
          have HW := Lib.hid hrow
          have HN := Lib.hid hnv
          clear hR hD hB hpos hv hrun hrow hnv hres
          go_wp2_with fail
          go_ret2
          rw [HRES.out]
          exact ⟨HB.out, pv, pc, rfl, HW.out, hc1, by unfold maxLen; omega, HN.out⟩
theorem decodeN_any (p : Option Addr) (len cap : Nat) (xs : List UInt8) (n : Int) (w : World) (hr : Row w p xs) (hx : xs.length = len) (hnil : p = none → cap = 0) (hl : len ≤ 100000) (hn : n ≤ 1000000) :
    Calls Try.prog 9 #[.slice p len cap, .int .i64 n] w (LdP w (decR false (bitsOf false xs) n)) := by
  have hd := decode_any p len cap xs n false w hr hx hnil hl hn
  generalize decR false (bitsOf false xs) n = R at hd ⊢
  have HD := Lib.hid hd
  clear hd hr hx hnil
  go_enter Try.func9, Try.ntmps9
  go_wp2_with fail
  refine HD.out.mono ?_
  rintro e w1 ⟨hb, q, c, rfl, hq⟩
  have HB := Lib.hid hb
  have HQ := Lib.hid hq
  clear hb hq
  go_wp2_with fail
  go_ret2
  exact ⟨HB.out, q, c, rfl, HQ.out⟩
theorem decodeO_any (p : Option Addr) (len cap : Nat) (xs : List UInt8) (n : Int) (w : World) (hr : Row w p xs) (hx : xs.length = len) (hnil : p = none → cap = 0) (hl : len ≤ 100000) (hn : n ≤ 1000000) :
    Calls Try.prog 10 #[.slice p len cap, .int .i64 n] w (LdP w (decR true (bitsOf true xs) n)) := by
  have hd := decode_any p len cap xs n true w hr hx hnil hl hn
  generalize decR true (bitsOf true xs) n = R at hd ⊢
  have HD := Lib.hid hd
  clear hd hr hx hnil
  go_enter Try.func10, Try.ntmps10
  go_wp2_with fail
  refine HD.out.mono ?_
  rintro e w1 ⟨hb, q, c, rfl, hq⟩
  have HB := Lib.hid hb
  have HQ := Lib.hid hq
  clear hb hq
  go_wp2_with fail
  go_ret2
  exact ⟨HB.out, q, c, rfl, HQ.out⟩
end Go.Proofs.Ytgdcjhngjdiaoaa.Lz
