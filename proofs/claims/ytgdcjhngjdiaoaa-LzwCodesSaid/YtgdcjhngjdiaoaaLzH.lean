
/- The walk of LzwCodes: it returns true for any bytes, and nothing that was there is written. -/
import Derived.Test.YtgdcjhngjdiaoaaLzV
namespace Go.Proofs.Ytgdcjhngjdiaoaa.Lz
open Go.RowKit Go.Proofs.Ytgdcjhngjdiaoaa.Oct Go.Proofs.Ytgdcjhngjdiaoaa.Bit
set_option linter.unusedVariables false
set_option linter.unusedSimpArgs false
set_option maxRecDepth 100000

/-- bytes as codes of nine bits each -/
def wbits (old : Bool) (xs : List UInt8) : List Bool := xs.flatMap (fun x => wordE old x.toNat 9)
theorem wbits_length (old : Bool) (xs : List UInt8) : (wbits old xs).length = 9 * xs.length := by
  induction xs with
  | nil => rfl
  | cons c l ih => simp only [wbits, List.flatMap_cons, List.length_append, wordE_length, List.length_cons] at ih ⊢; omega
theorem wbits_snoc (old : Bool) (xs : List UInt8) (x : UInt8) : wbits old (xs ++ [x]) = wbits old xs ++ wordE old x.toNat 9 := by simp [wbits]
theorem wbits_append (old : Bool) (xs ys : List UInt8) : wbits old (xs ++ ys) = wbits old xs ++ wbits old ys := by simp [wbits]
theorem step_byte (s : St) {c : Nat} (hc : c < 256) : step s c = some (nxt s [UInt8.ofNat c], [UInt8.ofNat c]) := by
  refine step_text (by omega) ?_
  unfold textOf
  by_cases h0 : s.ahead = []
  · rw [if_pos h0, if_pos hc]
  · rw [if_neg h0, if_neg (by omega)]
    unfold look
    rw [if_pos hc]
theorem nxt_len (s : St) (t : List UInt8) : (nxt s t).tab.length ≤ s.tab.length + 1 := by
  unfold nxt
  dsimp only
  split
  · simp
  · omega
theorem widN_9 (k : Nat) (old : Bool) (h : k ≤ 500) : widN k old = 9 := by
  unfold widN
  rw [if_pos]
  split <;> omega
theorem wbits_code (old : Bool) (xs : List UInt8) (R : List Bool) (k : Nat) (h : k < xs.length) : codeAt old (wbits old xs ++ R) (9 * k) 9 = xs[k].toNat := by
  have e : wbits old xs = wbits old (xs.take k) ++ (wordE old xs[k].toNat 9 ++ wbits old (xs.drop (k + 1))) := by
    have h1 : xs = xs.take k ++ (xs[k] :: xs.drop (k + 1)) := by rw [← List.drop_eq_getElem_cons h, List.take_append_drop]
    have h2 : wbits old (xs[k] :: xs.drop (k + 1)) = wordE old xs[k].toNat 9 ++ wbits old (xs.drop (k + 1)) := by unfold wbits; rw [List.flatMap_cons]
    rw [← h2, ← wbits_append, ← h1]
  have hl : (wbits old (xs.take k)).length = 9 * k := by rw [wbits_length, List.length_take]; omega
  have hb := xs[k].toNat_lt
  unfold codeAt
  rw [e, List.append_assoc, ← hl, List.drop_left, List.append_assoc, List.take_append_of_le_length (by rw [wordE_length]; exact Nat.le_refl _), List.take_of_length_le (by rw [wordE_length]; exact Nat.le_refl _), numE_wordE old _ 9 (by omega)]
theorem wbits_run (old : Bool) (xs : List UInt8) (R : List Bool) (hx : xs.length ≤ 200) : run old (wbits old xs ++ R) xs.length 0 s0 [] = (xs, 0) := by
  have key : ∀ k, k ≤ xs.length → ∃ s : St, s.tab.length ≤ k ∧ run old (wbits old xs ++ R) xs.length 0 s0 [] = run old (wbits old xs ++ R) xs.length (9 * k) s (xs.take k) := by
    intro k
    induction k with
    | zero => intro _; exact ⟨s0, by simp [s0], rfl⟩
    | succ k ih =>
      intro hk
      obtain ⟨s, hs, e⟩ := ih (by omega)
      have hw := widN_9 (258 + s.tab.length) old (by omega)
      have hc := wbits_code old xs R k (by omega)
      have hb := (xs[k]'(by omega)).toNat_lt
      have hst := step_byte s (c := (xs[k]'(by omega)).toNat) (by omega)
      rw [UInt8.ofNat_toNat] at hst
      refine ⟨nxt s [xs[k]], by have := nxt_len s [xs[k]]; omega, ?_⟩
      rw [e, run_step (s' := nxt s [xs[k]]) (t := [xs[k]]) (by rw [List.length_take]; omega) (by rw [hw, List.length_append, wbits_length]; omega) (by rw [hw, hc]; omega) (by rw [hw, hc]; exact hst), hw, List.take_succ_eq_append_getElem (by omega)]
      rfl
  obtain ⟨s, _, e⟩ := key xs.length (Nat.le_refl _)
  rw [e, List.take_length, run_done rfl]
theorem wbits_dec (old : Bool) (xs : List UInt8) (hx : xs.length ≤ 200) : decR old (bitsOf old (packB old (wbits old xs))) (xs.length : Int) = (xs, 0) := by
  unfold decR
  rw [if_neg (by omega), bitsOf_packB, Int.toNat_natCast]
  exact wbits_run old xs _ hx
set_option maxHeartbeats 2000000 in
theorem codes_walk (p : Option Addr) (len cap : Nat) (zs0 : List Int) (w : World) (hr0 : IsRow .u8 w p len cap zs0) :
    Calls Try.prog 6 #[.slice p len cap] w fun e w' => e = .returned (.bool true) ∧ Below w.heap.size w w' := by
  obtain ⟨xs, hx, hr, hlc, hcm, hnil⟩ := hr0.row
  clear hr0
  by_cases hbig : 200 < len
  · have hd : decide (200 < (len : Int)) = true := by simp; omega
    unfold maxLen at hcm
    go_enter Try.func6, Try.ntmps6
    go_wp2_with fail
    refine (lives_any _).mono ?_
    rintro e w1 ⟨rfl, hb1⟩
    go_wp2_with fail
    refine (lives_any _).mono ?_
    rintro e w2 ⟨rfl, hb2⟩
    go_wp2_with fail
    go_ret
    exact ⟨rfl, hb1.trans (hb2.mono hb1.size)⟩
  · have hd : decide (200 < (len : Int)) = false := by simp; omega
    have HX := Lib.hid hx
    unfold maxLen at hcm
    go_enter Try.func6, Try.ntmps6
    go_wp2_with fail
    refine (lives_any _).mono ?_
    rintro e w1 ⟨rfl, hb1⟩
    have hz1 := hb1.size
    have hown := World.ownsRow_made (base := w1.heap.size) (e := 5) (size := 1) w1 #[] 0 (Nat.le_refl _) (by simp [maxLen]) rfl
    have hrA := (hr.below hb1).below ((Below.refl _ w1).alloc (Nat.le_refl _) (.cells #[] 5))
    have HB1 := Lib.hid hb1
    clear hx hr hb1
    go_wp2_with (at_builtin; refine wpList_append_bytes rfl _ _ rfl w1.heap.size _ 0 [] rfl hown p len cap xs rfl hrA HX.out hnil (by omega) (by simp) ?_)
    intro v2 w2 hown2 hgrow2 hv2
    obtain ⟨g2, c2, hv2', hgc2, hgm2, hgb2, hgl2, hrow2⟩ := own_form hown2 hv2
    subst hv2'
    have hb2 : Below w1.heap.size w1 w2 := ((Below.refl _ w1).alloc (Nat.le_refl _) _).grown hgrow2 (by simp) (fun k hk => by
      simp [Value.ownBlock] at hk; omega)
    have HB2 := Lib.hid (HB1.out.trans (hb2.mono hz1))
    have HR2 := Lib.hid hrow2
    clear hown hrA hgrow2 hv2 hb2 hown2 hgm2 hrow2
    go_wp2_with fail
    go_loopw [3, 4, 5, 25] (fun a b u i wr => ∃ k : Nat, k ≤ len ∧ i = .int .i64 (k : Int) ∧ a = .string (ds (wbits false (xs.take k))) ∧ b = .string (ds (wbits true (xs.take k))) ∧ u = .string (bs (xs.take k)) ∧ Hid (Below w2.heap.size w2 wr)) (fun _ _ _ i _ => len - (intOf i).toNat)
    case atStart => exact ⟨0, by omega, rfl, rfl, rfl, rfl, Lib.hid (Below.refl _ _)⟩
    case round =>
      obtain ⟨k, hk, rfl, rfl, rfl, rfl, HF⟩ := hrel
      have z1 : (ds (wbits false (xs.take k))).size ≤ 9 * len := by rw [ds_size, wbits_length, List.length_take]; omega
      have z2 : (ds (wbits true (xs.take k))).size ≤ 9 * len := by rw [ds_size, wbits_length, List.length_take]; omega
      have z3 : (bs (xs.take k)).size ≤ len := by rw [bs_size, List.length_take]; omega
      by_cases hlt : k < len
      · have hd2 : decide ((k : Int) < (len : Int)) = true := by simp; omega
        have hkx : k < xs.length := by rw [HX.out]; exact hlt
        obtain ⟨b, off, hq, hbl, hcs⟩ := (HR2.out.below HF.out) (by omega)
        injection hq with hq
        injection hq with e1 e2
        subst e1; subst e2
        have hcell := hcs k hkx
        rw [Nat.zero_add] at hcell
        have HS := Lib.hid (show xs.take (k + 1) = xs.take k ++ [xs[k]] from by rw [List.take_succ_eq_append_getElem hkx])
        generalize xs[k] = x at hcell HS
        have hxl := x.toNat_lt
        clear hcs
        go_wp2_with fail
        refine (rword_any x.toNat 9 _ (by omega) (by omega)).mono ?_
        rintro e w3 ⟨rfl, hb3⟩
        have HF3 := Lib.hid (HF.out.trans (hb3.mono HF.out.size))
        have z4 : (ds (word x.toNat 9)).size = 9 := by rw [ds_size, word_length]
        have z5 : (ds (word x.toNat 9).reverse).size = 9 := by rw [ds_size, List.length_reverse, word_length]
        have a1 : ds (wbits false (xs.take k)) ++ ds (word x.toNat 9) = ds (wbits false (xs.take (k + 1))) := by rw [HS.out, wbits_snoc, ds_append]; rfl
        have a2 : ds (wbits true (xs.take k)) ++ ds (word x.toNat 9).reverse = ds (wbits true (xs.take (k + 1))) := by rw [HS.out, wbits_snoc, ds_append]; rfl
        have a3 : bs (xs.take k) ++ bs [x] = bs (xs.take (k + 1)) := by rw [HS.out, bs_append]
        have z6 : (bs [x]).size = 1 := by rw [bs_size]; rfl
        have HT := Lib.hid (fun W => dturn_any (word x.toNat 9) W (by rw [word_length]; omega))
        have ca := conv_row 1 1 (row_one w3 x 5) rfl
        have HA1 := Lib.hid a1
        have HA2 := Lib.hid a2
        have HA3 := Lib.hid a3
        clear hb3 a1 a2 a3 hcell
        generalize ds (word x.toNat 9) = D at *
        generalize ds (word x.toNat 9).reverse = D' at *
        go_wp2_with fail
        refine (HT.out _).mono ?_
        rintro e w' ⟨rfl, rfl⟩
        go_wp2_with fail
        go_roundw
        case rel => exact ⟨k + 1, by omega, by go_num, by rw [HA1.out], by rw [HA2.out], by rw [HA3.out], Lib.hid (HF3.out.trans ((Below.refl _ w3).alloc HF3.out.size _))⟩
        case measure => simp [intOf]; omega
      · have hke : k = len := by omega
        subst hke
        have hd2 : decide ((k : Int) < (k : Int)) = false := by simp
        have ht : xs.take k = xs := by rw [← HX.out, List.take_length]
        rw [ht] at z1 z2 z3 ⊢
        have hl1 := wbits_length false xs
        have hl2 := wbits_length true xs
        rw [HX.out] at hl1 hl2
        have HRB1 := Lib.hid (fun W => rbytes_any (wbits false xs) false W (by omega))
        have HRB2 := Lib.hid (fun W => rbytes_any (wbits true xs) true W (by omega))
        have hp1 := packB_length false (wbits false xs)
        have hp2 := packB_length true (wbits true xs)
        rw [hl1] at hp1
        rw [hl2] at hp2
        have HD1 := Lib.hid (wbits_dec false xs (by rw [HX.out]; omega))
        have HD2 := Lib.hid (wbits_dec true xs (by rw [HX.out]; omega))
        rw [HX.out] at HD1 HD2
        have hq1 : (packB false (wbits false xs)).length ≤ 1000 := by omega
        have hq2 : (packB true (wbits true xs)).length ≤ 1000 := by omega
        have HBF := Lib.hid (HB2.out.trans (HF.out.mono HB2.out.size))
        clear hl1 hl2 hp1 hp2 ht HF z1 z2 z3
        generalize packB false (wbits false xs) = o1 at *
        generalize packB true (wbits true xs) = o2 at *
        go_wp2_with fail
        refine (HRB1.out _).mono ?_
        rintro e w3 ⟨rfl, hb3⟩
        obtain ⟨w4, c4, hcv4, hb4, hrow4⟩ := str_row w3 o1
        have hdc := decodeN_any _ o1.length c4 o1 (k : Int) w4 hrow4 rfl (fun h => by cases h) (by omega) (by omega)
        rw [HD1.out] at hdc
        have HDC := Lib.hid hdc
        have HB4 := Lib.hid (HBF.out.trans ((hb3.trans (hb4.mono hb3.size)).mono HBF.out.size))
        clear hdc hrow4 hb3 hb4
        go_wp2_with fail
        refine HDC.out.mono ?_
        rintro e w5 ⟨hb5, q5, c5, rfl, hrow5, _⟩
        have HB5 := Lib.hid (HB4.out.trans (hb5.mono HB4.out.size))
        have HR5 := Lib.hid hrow5
        clear hb5 hrow5 hcv4
        go_wp2_with fail
        refine (HRB2.out _).mono ?_
        rintro e w6 ⟨rfl, hb6⟩
        obtain ⟨w7, c7, hcv7, hb7, hrow7⟩ := str_row w6 o2
        have hdc := decodeO_any _ o2.length c7 o2 (k : Int) w7 hrow7 rfl (fun h => by cases h) (by omega) (by omega)
        rw [HD2.out] at hdc
        have HDC2 := Lib.hid hdc
        have HR7 := Lib.hid ((HR5.out.below hb6).below hb7)
        have HB7 := Lib.hid (HB5.out.trans ((hb6.trans (hb7.mono hb6.size)).mono HB5.out.size))
        clear hdc hrow7 hb6 hb7
        go_wp2_with fail
        refine HDC2.out.mono ?_
        rintro e w8 ⟨hb8, q8, c8, rfl, hrow8, _⟩
        have HB8 := Lib.hid (HB7.out.trans (hb8.mono HB7.out.size))
        have hr5 := HR7.out.below hb8
        dsimp only at hrow8 hr5 ⊢
        rw [HX.out]
        have ca1 := conv_row k c5 hr5 HX.out
        have ca2 := conv_row k c8 hrow8 HX.out
        clear hb8 hrow8 hcv7 hr5
        go_wp2_with fail
        go_ret
        exact ⟨rfl, HB8.out⟩
end Go.Proofs.Ytgdcjhngjdiaoaa.Lz
