
/- Contracts of package runs: Of, Next, Lengths. -/
import Derived.Test.YtklofifmmcegpaaRnB
import Derived.Test.YtklofifmmcegpaaRnD
namespace Go.Proofs.Ytklofifmmcegpaa.Rn
open Go.RowKit Go.Proofs.Ytklofifmmcegpaa.Oct Go.Proofs.Ytklofifmmcegpaa.Bit Go.Proofs.Ytklofifmmcegpaa.Lp
set_option linter.unusedVariables false
set_option linter.unusedSimpArgs false
set_option maxRecDepth 100000

theorem ints_new (w : World) (zs : List Int) (T : TypeId) (fr : Nat × Nat) : VRow (w.alloc (.cells (ints zs).toArray T fr)) (w.alloc (.cells (ints zs).toArray T fr)).heap.size (some ⟨w.heap.size, 0, none⟩) (ints zs) :=
  vrow_blk (T := T) (fr := fr) (by
    show (w.heap.push _)[w.heap.size]? = _
    simp) (by simp)
/-- a row of numbers and an error, given back -/
def LstP (w : World) (zs : List Int) (er : Int) (e : Ending) (w' : World) : Prop :=
  Below w.heap.size w w' ∧ ∃ q c, e = .returned (.tuple #[.slice q zs.length c, .int .i64 er]) ∧ VRow w' w'.heap.size q (ints zs) ∧ (q = none → c = 0) ∧ zs.length ≤ c ∧ c ≤ maxLen
theorem LstP.nil (w : World) (er : Int) (w' : World) (h : Below w.heap.size w w') : LstP w [] er (.returned (.tuple #[.slice none 0 0, .int .i64 er])) w' :=
  ⟨h, none, 0, rfl, fun h => absurd h (by simp [ints]), fun _ => rfl, Nat.le_refl _, by simp [maxLen]⟩
theorem changes_snoc (P : List Bool) (b : Bool) : changes (P ++ [b]) = changes P ++ (if b = lastP false P then [] else [P.length]) := cur_eq P b
theorem IOwn.len {w : World} {base : Nat} {v : Value} {zs : List Int} (h : IOwn w base v zs) : (ints zs).length = zs.length := ints_length _
set_option maxHeartbeats 2000000 in
theorem of_in (p : Option Addr) (len cap : Nat) (xs : List UInt8) (n : Nat) (w : World) (h : Row w p xs) (hx : xs.length = len) (hl : len ≤ 100000) (hn : n ≤ 32768) (hn8 : n ≤ 8 * len) :
    Calls Try.prog 10 #[.slice p len cap, .int .i64 (n : Int)] w (LstP w (zl (changes ((bitsOf false xs).take n))) 0) := by
  obtain ⟨i0, hi, hz0, hz1, hz2⟩ := info_parts Try.infoInt
  have hwd : wideB (n : Int) = true := by unfold wideB; simp; omega
  obtain ⟨P, hP⟩ : ∃ P, P = (bitsOf false xs).take n := ⟨_, rfl⟩
  rw [← hP]
  have hPl : P.length = n := by rw [hP, List.length_take, bitsOf_length, hx]; omega
  have HPG := Lib.hid (show ∀ k (hk : k < P.length), P[k] = gb xs k from fun k hk => by
    subst hP
    rw [List.getElem_take, bits_get])
  have HPL := Lib.hid hPl
  have HROW := Lib.hid h
  have HX := Lib.hid hx
  clear h hx hP hPl
  go_enter Try.func10, Try.ntmps10
  go_wp2_with fail
  refine (isWidth_any _ _).mono ?_
  rintro e w' ⟨rfl, rfl⟩
  rw [hwd]
  go_wp2_with fail
  refine (bytesFor_any _ _ (by omega)).mono ?_
  rintro e w' ⟨rfl, rfl⟩
  obtain ⟨m, hm⟩ : ∃ m, m = (n + 7) / 8 := ⟨_, rfl⟩
  have hd0 : decide (len < m) = false := by simp; omega
  rw [← hm]
  clear hm hwd
  go_wp2_with fail
  go_loopw [6, 7, 8, 18] (fun v b _ i wr => ∃ k : Nat, k ≤ n ∧ i = .int .i64 (k : Int) ∧ b = .bool (lastP false (P.take k)) ∧ Hid (IOwn wr w.heap.size v (zl (changes (P.take k)))) ∧ Hid (Below w.heap.size w wr)) (fun _ _ _ i _ => n - (intOf i).toNat)
  case atStart => exact ⟨0, by omega, rfl, rfl, Lib.hid (by simpa [changes, chg, zl, IOwn, ints] using World.ownsRow_nil w w.heap.size 3 1), Lib.hid (Below.refl _ _)⟩
  case round =>
    obtain ⟨k, hk, rfl, rfl, HO, HB⟩ := hrel
    by_cases hlt : k < n
    · have hkl : k < P.length := by rw [HPL.out]; exact hlt
      have hd : decide ((k : Int) < (n : Int)) = true := by simp; omega
      have HG := Lib.hid (HPG.out k hkl)
      have htk := List.take_succ_eq_append_getElem hkl
      have hsn := changes_snoc (P.take k) P[k]
      rw [← htk] at hsn
      have hls : lastP false (P.take (k + 1)) = P[k] := by rw [htk, lastP_append]; rfl
      rw [List.length_take, Nat.min_eq_left (by omega)] at hsn
      rw [HG.out] at hsn hls
      have hbl := isBlack_any p len cap xs k wr (fun hp => HROW.out.below HB.out hp) HX.out hl (by omega)
      have hlen : (changes (P.take k)).length ≤ k := by
        have : ∀ (l : List Bool) (b : Bool) (i : Nat), (chg b i l).length ≤ l.length := by
          intro l
          induction l with
          | nil => intro b i; simp [chg]
          | cons c l ih =>
            intro b i
            rw [chg, List.length_cons]
            split
            · have := ih c (i + 1); omega
            · have := ih c (i + 1); rw [List.length_cons]; omega
        have := this (P.take k) false 0
        rw [List.length_take] at this
        unfold changes
        omega
      generalize gb xs k = b at hsn hls hbl
      obtain ⟨l, hl2⟩ : ∃ l, l = lastP false (P.take k) := ⟨_, rfl⟩
      rw [← hl2] at hsn ⊢
      have HSN := Lib.hid hsn
      have HLS := Lib.hid hls
      have HBL := Lib.hid hbl
      clear htk hsn hls hbl HG hl2 hkl
      go_wp2_with fail
      refine HBL.out.mono ?_
      rintro e w1 ⟨rfl, hdr⟩
      have hb0 : Below wr.heap.size wr w1 := hdr.below _
      by_cases hbl : b = l
      · subst hbl
        have hne : (b != b) = false := by simp
        have HO2 : Hid (IOwn w1 w.heap.size u6 (zl (changes (P.take (k + 1))))) := Lib.hid (by
          have := HSN.out
          rw [if_pos rfl, List.append_nil] at this
          rw [this]
          exact own_below HO.out hb0)
        have HB2 := Lib.hid (HB.out.trans (hb0.mono HB.out.size))
        clear HBL HO HB hb0 hdr HSN
        go_wp2_with fail
        go_roundw
        case rel => exact ⟨k + 1, by omega, by go_num, by rw [HLS.out], HO2, HB2⟩
        case measure => simp [intOf]; omega
      · have hnl : (!l) = b := by cases b <;> cases l <;> simp_all
        subst hnl
        have hb1 : Below w1.heap.size w1 (w1.alloc (.cells (ints [(k : Int)]).toArray 3)) := (Below.refl _ w1).alloc (Nat.le_refl _) _
        have HS := Lib.hid (ints_new w1 [(k : Int)] 3 (0, 0))
        have HOW := Lib.hid (own_below (own_below HO.out hb0) hb1)
        have HB2 := Lib.hid ((HB.out.trans (hb0.mono HB.out.size)).trans (hb1.mono (by have := HB.out.size; have := hb0.size; omega)))
        have HZ := Lib.hid HB2.out.size
        have HSN2 : Hid (ints (zl (changes (P.take k))) ++ ints [(k : Int)] = ints (zl (changes (P.take (k + 1)))) ∧ (zl (changes (P.take k))).length + 1 = (zl (changes (P.take (k + 1)))).length) := Lib.hid (by
          have := HSN.out
          rw [if_neg hbl] at this
          rw [this, zl_append, ints_append]
          exact ⟨rfl, by simp [zl]⟩)
        have hlz : (zl (changes (P.take k))).length ≤ k := by rw [zl_length]; exact hlen
        clear HBL HO HB hb0 hb1 hdr HSN hbl hlen
        go_wp2_with (at_builtin; refine wpList_append_vals Try.underlying24 hi hz0 hz1 hz2 rfl (by decide) rfl _ _ rfl w.heap.size _ (zl (changes (P.take k))).length (ints (zl (changes (P.take k)))) rfl HOW.out (some ⟨w1.heap.size, 0, none⟩) 1 1 (ints [(k : Int)]) rfl HS.out rfl (fun h => by cases h) ints_one (by omega) HZ.out ?_)
        intro v2 w2 hown2 _ hb3
        rw [HSN2.out.1, HSN2.out.2] at hown2
        have HO3 : Hid (IOwn w2 w.heap.size v2 (zl (changes (P.take (k + 1))))) := Lib.hid hown2
        have HB3 := Lib.hid (HB2.out.trans hb3)
        clear hown2 hb3 HOW HS HZ HSN2 HB2
        go_wp2_with fail
        go_roundw
        case rel => exact ⟨k + 1, by omega, by go_num, by rw [HLS.out], HO3, HB3⟩
        case measure => simp [intOf]; omega
    · have hke : k = n := by omega
      subst hke
      have hd : decide ((k : Int) < (k : Int)) = false := by simp
      rw [List.take_of_length_le (by rw [HPL.out]; exact Nat.le_refl _)] at HO ⊢
      generalize lastP false P = bl
      obtain ⟨q, c, rfl, hq0, hqc, hcm, hv, _⟩ := vrow_own HO.out (by rw [ints_length])
      have HQ0 := Lib.hid hq0
      have HQC := Lib.hid hqc
      have HCM := Lib.hid hcm
      have HV := Lib.hid hv
      clear hq0 hv hqc hcm HO
      go_wp2_with fail
      go_ret2
      exact ⟨HB.out, q, c, rfl, HV.out, HQ0.out, HQC.out, HCM.out⟩
def ofE (n : Nat) (z : Int) : Int := if wideB z then (if ((8 * n : Nat) : Int) < z then 2 else 0) else 1
def ofL (xs : List UInt8) (z : Int) : List Nat := if ofE xs.length z = 0 then changes ((bitsOf false xs).take z.toNat) else []
theorem of_any (p : Option Addr) (len cap : Nat) (xs : List UInt8) (z : Int) (w : World) (h : Row w p xs) (hx : xs.length = len) (hl : len ≤ 100000) :
    Calls Try.prog 10 #[.slice p len cap, .int .i64 z] w (LstP w (zl (ofL xs z)) (ofE len z)) := by
  by_cases hw : wideB z = true
  · have hz := of_decide_eq_true hw
    obtain ⟨n, rfl⟩ : ∃ n : Nat, z = (n : Int) := ⟨z.toNat, by omega⟩
    by_cases hc : ((8 * len : Nat) : Int) < (n : Int)
    · have e1 : ofE len (n : Int) = 2 := by unfold ofE; rw [hw]; simp only [if_true]; rw [if_pos hc]
      have e2 : ofL xs (n : Int) = [] := by unfold ofL; rw [hx, e1]; rfl
      rw [e1, e2]
      obtain ⟨m, hm⟩ : ∃ m, m = (n + 7) / 8 := ⟨_, rfl⟩
      have hd0 : decide (len < m) = true := by simp; omega
      have hbf := fun w' => bytesFor_any n w' (by omega)
      rw [← hm] at hbf
      have HBF := Lib.hid hbf
      clear e1 e2 hbf hc hz h hx
      go_enter Try.func10, Try.ntmps10
      go_wp2_with fail
      refine (isWidth_any _ _).mono ?_
      rintro e w' ⟨rfl, rfl⟩
      rw [hw]
      clear hw hm
      go_wp2_with fail
      refine (HBF.out _).mono ?_
      rintro e w' ⟨rfl, rfl⟩
      go_wp2_with fail
      go_ret2
      exact LstP.nil _ _ _ (Below.refl _ _)
    · have e1 : ofE len (n : Int) = 0 := by unfold ofE; rw [hw]; simp only [if_true]; rw [if_neg hc]
      have e2 : ofL xs (n : Int) = changes ((bitsOf false xs).take n) := by unfold ofL; rw [hx, e1]; simp
      rw [e1, e2]
      exact of_in p len cap xs n w h hx hl (by omega) (by omega)
  · have hw' : wideB z = false := by simpa using hw
    have e1 : ofE len z = 1 := by unfold ofE; rw [hw']; rfl
    have e2 : ofL xs z = [] := by unfold ofL; rw [hx, e1]; rfl
    rw [e1, e2]
    clear e1 e2 hw h hx
    go_enter Try.func10, Try.ntmps10
    go_wp2_with fail
    refine (isWidth_any _ _).mono ?_
    rintro e w' ⟨rfl, rfl⟩
    rw [hw']
    clear hw'
    go_wp2_with fail
    go_ret2
    exact LstP.nil _ _ _ (Below.refl _ _)
theorem headD_getD (zs : List Int) (k : Nat) (z : Int) : (zs.drop k).headD z = zs.getD k z := by
  rw [List.getD_eq_getElem?_getD, List.headD_eq_head?_getD, List.head?_drop]
set_option maxHeartbeats 2000000 in
theorem next_any (p : Option Addr) (len cap : Nat) (zs : List Int) (f : Int) (tb : Bool) (z : Int) (w : World) (C : Nat) (h : VRow w C p (ints zs)) (hx : zs.length = len) (hl : len ≤ 100000) :
    Calls Try.prog 18 #[.slice p len cap, .int .i64 f, .bool tb, .int .i64 z] w fun e w' => e = .returned (.tuple #[.int .i64 (nextI z zs tb f).1, .int .i64 (nextI z zs tb f).2]) ∧ w = w' := by
  have HH := Lib.hid h
  have HX := Lib.hid hx
  have haft := fun i w' hi (hw : w = w') => after_any p cap zs i z w' C (by rw [← hw]; exact h) (by unfold maxLen; omega) hi
  rw [hx] at haft
  have HAF := Lib.hid haft
  obtain ⟨X, hX⟩ : ∃ X, X = nextI z zs tb f := ⟨_, rfl⟩
  rw [← hX]
  have HST : Hid (nextI z (zs.drop 0) (tb ^^ (0 % 2 == 1)) f = X) := Lib.hid (by rw [hX]; simp)
  clear h hx hX haft
  go_enter Try.func18, Try.ntmps18
  go_wp2_with fail
  go_loop [10, 11, 14] (fun _ _ i => ∃ (k : Nat), k ≤ len ∧ i = .int .i64 (k : Int) ∧ Hid (nextI z (zs.drop k) (tb ^^ (k % 2 == 1)) f = X)) (fun _ _ i => len - (intOf i).toNat)
  case atStart => exact ⟨0, by omega, rfl, HST⟩
  case round =>
    clear HST
    obtain ⟨k, hk, rfl, HR⟩ := hrel
    by_cases hlt : k < len
    · have hkl : k < zs.length := by rw [HX.out]; exact hlt
      obtain ⟨b, off, hq, _⟩ := HH.out.addr (by rw [ints_length]; omega)
      subst hq
      have hc := HH.out.int k hkl
      have hr := HR.out
      rw [List.drop_eq_getElem_cons hkl, nextI, headD_getD, show (!(tb ^^ (k % 2 == 1))) = (tb ^^ ((k + 1) % 2 == 1)) from by
        rcases (show k % 2 = 0 ∨ k % 2 = 1 by omega) with q | q
        · rw [q, show (k + 1) % 2 = 1 from by omega]; cases tb <;> rfl
        · rw [q, show (k + 1) % 2 = 0 from by omega]; cases tb <;> rfl] at hr
      have hev : (tb ^^ (k % 2 == 1)) = ((k % 2 == 0) == tb) := by
        rcases (show k % 2 = 0 ∨ k % 2 = 1 by omega) with q | q <;> rw [q] <;> cases tb <;> rfl
      rw [hev] at hr
      have hib := fun w' => isToBlack_any k w' (by omega)
      generalize (k % 2 == 0) = ev at hr hib
      generalize zs[k] = x at hc hr
      have hd : decide ((k : Int) < (len : Int)) = true := by simp; omega
      have i1 : (0 : Int) ≤ (k : Int) := by omega
      have i2 : (k : Int) < (len : Int) := by omega
      have HIB := Lib.hid hib
      clear HR hkl hib hev
      by_cases h1 : f < x
      · have hd2 : decide (f < x) = true := by simpa using h1
        by_cases h2 : ev = tb
        · subst h2
          rw [if_pos ⟨h1, by simp⟩] at hr
          have hk2 : k ≤ 4000000000000000 := by omega
          generalize hg : zs.getD (k + 1) z = y at hr
          subst hr
          have hal := HAF.out k w hk2 rfl
          rw [hg] at hal
          have HAL := Lib.hid hal
          clear h1 hg HAF hal
          go_wp2_with fail
          refine (HIB.out _).mono ?_
          rintro e w' ⟨rfl, rfl⟩
          go_wp2_with fail
          refine HAL.out.mono ?_
          rintro e w' ⟨rfl, rfl⟩
          go_wp2_with fail
          go_ret2
          exact ⟨rfl, rfl⟩
        · have he : (!tb) = ev := by cases ev <;> cases tb <;> simp_all
          subst he
          rw [if_neg (by rintro ⟨_, h⟩; cases tb <;> simp at h)] at hr
          have HR := Lib.hid hr
          clear h1 h2 hr
          go_wp2_with fail
          refine (HIB.out _).mono ?_
          rintro e w' ⟨rfl, rfl⟩
          go_wp2_with fail
          go_round
          case rel => exact ⟨k + 1, by omega, by go_num, HR⟩
          case measure => simp [intOf]; omega
      · have hd2 : decide (f < x) = false := by simpa using h1
        rw [if_neg (by rintro ⟨h, _⟩; exact h1 h)] at hr
        have HR := Lib.hid hr
        clear h1 hr
        go_wp2_with fail
        go_round
        case rel => exact ⟨k + 1, by omega, by go_num, HR⟩
        case measure => simp [intOf]; omega
    · have : k = len := by omega
      subst this
      have hr := HR.out
      rw [List.drop_of_length_le (by rw [HX.out]; omega), nextI] at hr
      subst hr
      have hd : decide ((k : Int) < (k : Int)) = false := by simp
      go_wp2_with fail
      go_ret2
      exact ⟨rfl, rfl⟩
end Go.Proofs.Ytklofifmmcegpaa.Rn
