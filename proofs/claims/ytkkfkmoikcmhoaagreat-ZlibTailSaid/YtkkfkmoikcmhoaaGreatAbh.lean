/- ZlE, ZlN, ZlG, ZlT, ZlF, ZlO: merged. -/
import Derived.Laws.Rows
import Derived.Lib.AppendStr
import Derived.StillTailTactics
import Derived.Lib.SmallJoins
import Derived.Test.YtkkfkmoikcmhoaaGreatAaa
import Derived.Test.YtkkfkmoikcmhoaaGreatAag
import Derived.Test.YtkkfkmoikcmhoaaGreatAah
import Derived.Test.YtkkfkmoikcmhoaaGreatAai
import Derived.Test.YtkkfkmoikcmhoaaGreatAam
import Derived.Test.YtkkfkmoikcmhoaaGreatAbd
import Derived.Test.YtkkfkmoikcmhoaaGreatAbf
import Derived.Test.YtkkfkmoikcmhoaaGreatAbg
set_option linter.unusedVariables false
set_option linter.unusedSimpArgs false
namespace Go.Proofs.YtkkfkmoikcmhoaaGreat.Zl
open Go.RowKit Oct
set_option maxRecDepth 100000
theorem def_g {w w' : World} {xs : List UInt8} {how : Int} {e : Ending} (h : Df.DefP w xs how e w') : DefG Df.DefX w xs how e w' := by
 obtain ⟨hb, h | ⟨k, ys, q, c, h1, h2, h3, h4, h5, h6, h7, h8, _⟩⟩ := h
 ·exact ⟨hb, .inl h⟩
 ·exact ⟨hb, .inr ⟨k, ys, q, c, h1, h2, h3, h3.len, h4, h5, h6, h7, h8⟩⟩
theorem Ydn (p : Option Addr) (len cap : Nat) (xs : List UInt8) (how : Int) (W : World) (hr : Row W p xs) (hx : xs.length = len) (hc : len ≤ cap) (hc2 : cap ≤ maxLen) (hl : len ≤ 3000) :
  Calls Tryz.prog 10 #[.slice p len cap, .int .i64 how] W (Y8w Df.DefX W xs how) :=
 Yxl Df.DefX W p len cap xs how hr hx (by omega) ((Df.Yh6 W p len cap xs how hr hx hc hc2 ⟨by omega, fun _ => .inl (by omega)⟩).mono fun e w' h => def_g h)
theorem Yxt (W : World) : Row W none [] := fun h => absurd h (by simp)
theorem Yq2 (W : World) : Calls Tryz.prog 10 #[.slice none 0 0, .int .i64 0] W (Y8w Df.DefX W [] 0) :=
 Ydn none 0 0 [] 0 W (Yxt W) rfl (Nat.le_refl _) (by simp [maxLen]) (by omega)
theorem Yo1 (ys : List UInt8) (h : Df.DefX [] 0 ys) : ys = [1, 0, 0, 255, 255] := by rw [h.sto rfl, Yk1]
theorem inf_g {w w' : World} {xs : List UInt8} {M : Nat} {e : Ending} (h : Inf.Yyh w xs (M : Int) e w') : InfG true w xs M e w' := by
 have hz : Inf.Ywm xs (M : Int) = Inf.inflate xs M := by unfold Inf.Ywm; rw [if_neg (by omega), Int.toNat_natCast]
 unfold Inf.Yyh at h
 rw [hz] at h
 obtain ⟨hb, ⟨o, k, q, c, h1, h2, h3, h4, h5, h6, h7, h8⟩ | h⟩ := h
 ·exact ⟨hb, .inl ⟨o, k, q, c, h1, h2, h3, h4, h5, h6, h7, fun _ => h8⟩⟩
 ·exact ⟨hb, .inr h⟩
theorem Ydh (p : Option Addr) (len cap : Nat) (xs : List UInt8) (most : Int) (W : World) (hr : Row W p xs) (hx : xs.length = len) (hc : len ≤ cap) (hn : p = none → cap = 0) (hl : len ≤ 20000) (hm : most ≤ 20000) :
  Calls Tryz.prog 8 #[.slice p len cap, .int .i64 most] W (Y6d true W xs most) := by
 by_cases hneg : most < 0
 ·have HRES : Hid (Y6d true W xs most (.returned (.tuple #[.slice none 0 0, .int .i64 0, .int .i64 1])) W) := Lib.hid ⟨Below.refl _ _, .inr ⟨1, by unfold Y3j; rw [if_pos hneg], by decide, rfl⟩⟩
  clear hr hx hn
  go_enter Tryz.func8, Tryz.ntmps8
  go_wp2_with fail
  go_ret3
  exact HRES.out
 ·obtain ⟨M, rfl⟩ : ∃ M : Nat, most = (M : Int) := ⟨most.toNat, by omega⟩
  exact Yxc true p len cap xs (M : Int) W hr hx hc hn (by omega) (by omega) fun q c V hV hq => (Inf.Yhg q (len - 2) c (xs.drop 2) (M : Int) V hV (by rw [List.length_drop, hx]) hq (by omega) (by omega)).mono fun e w' h => by
   rw [Int.toNat_natCast]
   exact inf_g h
theorem Yfk (w : World) : Calls Tryz.prog 7 #[] w (YesP w) :=
 Yt7 true Df.DefX w Yo1 Yq2 fun W g c hr hc => Ydh (some ⟨g, 0, none⟩) 11 c _ 0 W hr rfl hc (fun h => by cases h) (by omega) (by omega)
end Go.Proofs.YtkkfkmoikcmhoaaGreat.Zl
namespace Go.Proofs.YtkkfkmoikcmhoaaGreat.Zl
open Bit Hf Inf
set_option maxRecDepth 100000
theorem Ypa (W : List (List Bool)) (n : Nat) (hW : ∀ w ∈ W, n ≤ w.length) : ∀ (l p : List Bool) (i k : Nat), Y1i W p l = .ok (i, k) → n ≤ k := by
 intro l
 induction l with
 | nil => intro p i k h; cases h
 | cons b t ih =>
  intro p i k h
  rw [Y1i] at h
  split at h
  ·rename_i hm
   cases h
   have := hW _ hm
   simpa using this
  ·split at h
   ·exact ih _ i k h
   ·cases h
theorem Ylf : ∀ w ∈ Y03 Y0l, 7 ≤ w.length := by decide +kernel
theorem Yph {L : List Bool} {a b v : Nat} (h : Y1r (Y03 Y0l) L a = .ok (v, b)) : a + 7 ≤ b := by
 unfold Y1r at h
 cases hx : Y1i (Y03 Y0l) [] (L.drop a) with
 | error e => rw [hx] at h; cases h
 | ok x =>
  obtain ⟨i, k⟩ := x
  rw [hx] at h
  cases h
  have := Ypa _ 7 Ylf _ _ _ _ hx
  omega
theorem Ypr (L : List Bool) (most h : Nat) (hL : L.length ≤ 8) (h3 : 3 ≤ L.length) : ∃ e, Yal L most h 3 [] = .error e := by
 unfold Yal
 split
 ·refine ⟨2, ?_⟩
  unfold Y3n Yvi
  rw [if_neg (by omega)]
  rfl
 ·split
  ·rw [Y5b _ _ L most 3 [] h3]
   cases hn : Y1r (Y03 Y0l) L 3 with
   | error e => exact ⟨e, rfl⟩
   | ok x =>
    obtain ⟨v, b⟩ := x
    have h1 := Yph hn
    have h2 := (Y2t (Y03 Y0l) 3).le h3 hn
    omega
  ·split
   ·refine ⟨2, ?_⟩
    unfold Ye4 Y54
    rw [if_neg (by omega)]
    rfl
   ·exact ⟨3, rfl⟩
theorem Ywn {ys xs : List UInt8} {most k : Nat} (h : inflate ys most = .ok (xs, k)) : 2 ≤ ys.length := by
 rcases Nat.lt_or_ge ys.length 2 with hl | hl
 ·exfalso
  rw [Y4f] at h
  have hL : (Y01 true ys).length ≤ 8 := by rw [Y04]; omega
  generalize Y01 true ys = L at h hL
  rw [Ycx L most 0 [] (Nat.zero_le _)] at h
  by_cases h3 : 3 ≤ L.length
  ·have hn : Y36 L 0 3 = .ok (Y38 true ((L.drop 0).take 3), 3) := by
    unfold Y36
    rw [if_pos (by omega)]
   obtain ⟨e, he⟩ := Ypr L most (Y38 true ((L.drop 0).take 3)) hL h3
   rw [hn, R.then_ok, he, R.then_err] at h
   cases h
  ·have hn : Y36 L 0 3 = .error 2 := by
    unfold Y36
    rw [if_neg (by omega)]
   rw [hn, R.then_err] at h
   cases h
 ·exact hl
theorem Yhx {ys xs zs : List UInt8} (h : Tells ys xs) {n : Nat} (hn : xs.length = n) : Y3j (Y3b ys zs) ((n : Int) - 1) = .error (if n = 0 then 1 else 8) := by
 unfold Y3j
 rcases Nat.eq_zero_or_pos n with e | e
 ·rw [if_pos (by omega), if_pos e]
 ·rw [if_neg (by omega), if_neg (by unfold Y3b; simp), if_neg (show ¬ Y4s ((Y3b ys zs).getD 0 0).toNat ((Y3b ys zs).getD 1 0).toNat = false from Y87 _)]
  have e2 : (Y3b ys zs).drop 2 = ys ++ zs := rfl
  have hm := (Y3w (h n (by omega)) zs).2
  rw [e2, show ((n : Int) - 1).toNat = n - 1 from by omega, Ycz hm (by omega) (by omega), if_neg (by omega)]
theorem Yv2 (ys xs : List UInt8) (i : Nat) (hi : i < 4) (h : (Y0n ys xs).length - 1 - i < (Y0n ys xs).length) : (be4 (Adl.sumN xs))[3 - i]? = some ((Y0n ys xs)[(Y0n ys xs).length - 1 - i]) := by
 have e : (Y0n ys xs)[(Y0n ys xs).length - 1 - i]? = (be4 (Adl.sumN xs))[3 - i]? := by
  rw [Y11, show ys.length + 6 - 1 - i = (ys.length + (3 - i)) + 1 + 1 from by omega]
  unfold Y0n Y3b
  rw [List.getElem?_cons_succ, List.getElem?_cons_succ, List.getElem?_append_right (by omega), show ys.length + (3 - i) - ys.length = 3 - i from by omega]
 rw [← e, List.getElem?_eq_getElem h]
theorem Yap {ys xs : List UInt8} (h : Tells ys xs) {n : Nat} (hn : xs.length = n) (i : Nat) (hi : i < 4) (hl : (Y0n ys xs).length - 1 - i < (Y0n ys xs).length) (c : UInt8) (hc : (Y0n ys xs)[(Y0n ys xs).length - 1 - i] ≠ c) :
  ∃ zs, (Y0n ys xs).set ((Y0n ys xs).length - 1 - i) c = Y3b ys zs ∧ Y3j (Y3b ys zs) (n : Int) = .error 4 := by
 refine ⟨_, Yv3 ys xs i c hi, Ytm h hn (by rw [List.length_set, Y21]) (Ymm _ (3 - i) c (by omega) ?_)⟩
 rw [Yv2 ys xs i hi hl]
 intro e
 injection e with e
 exact hc e
end Go.Proofs.YtkkfkmoikcmhoaaGreat.Zl
namespace Go.Proofs.YtkkfkmoikcmhoaaGreat.Zl
open Go.RowKit Oct
open Adl (sumN Beg Beg.of Yvl)
set_option maxRecDepth 100000
theorem Yu4 (w : World) (xs : List UInt8) (T : Nat) (fr : Nat × Nat) : Row (w.alloc (.cells (cellsOf xs).toArray T fr)) (some ⟨w.heap.size, 0, none⟩) xs := by
 intro _
 refine ⟨w.heap.size, 0, rfl, by simp, fun i h => ?_⟩
 rw [World.cell?_alloc_mark, Nat.zero_add]
 simp [cellsOf, h]
def Ys3 (s : Nat) : UInt8 := UInt8.ofNat (2 ^ s)
theorem Yim : ∀ s : Fin 8, (Ys3 s.val).toNat = 2 ^ s.val ∧ Ys3 s.val ≠ 0 := by decide
theorem Yxr {w : World} {q : Option Addr} {xs : List UInt8} (h : Row w q xs) (a : Addr) (v : Value) (hf : ∀ b, q = some b → a.block ≠ b.block) : Row (w.setCell a v) q xs := by
 intro hp
 obtain ⟨b, off, rfl, hb, hc⟩ := h hp
 exact ⟨b, off, rfl, by simpa [World.setCell] using hb, fun i hi => by
  rw [World.cell?_setCell_other _ _ _ _ (fun e => hf ⟨b, off, none⟩ rfl (by rw [e]))]
  exact hc i hi⟩
theorem Ykb (x : UInt8) (s : Nat) (hs : s < 8) : bits .xor .u8 (x.toNat : Int) (2 ^ s % 256) = ((x ^^^ Ys3 s).toNat : Int) := by
 have hb := (Yim ⟨s, hs⟩).1
 have hl := (Ys3 s).toNat_lt
 have e : (2 : Int) ^ s = ((2 ^ s : Nat) : Int) := by simp
 have hb' : (Ys3 s).toNat = 2 ^ s := hb
 have hx := x.toNat_lt
 have e2 : (2 : Int) ^ s % 256 = ((Ys3 s).toNat : Int) := by
  rw [e, ← hb']
  omega
 rw [e2, u8_xor_nat _ _ (by omega) (by omega), UInt8.toNat_xor]
theorem Yr9 (x : UInt8) (s : Nat) (hs : s < 8) : x ≠ x ^^^ Ys3 s := Yvl _ _ (Yim ⟨s, hs⟩).2
def bspot (z : Int) : Nat := (z % 18446744073709551616).toNat / 4 % 8
theorem Ys9 (z : Int) : bspot z < 8 := Nat.mod_lt _ (by decide)
theorem Yks (z : Int) : (IntKind.u64.wrap ((IntKind.u64.wrap z).tdiv 4)).tmod 8 = ((bspot z : Nat) : Int) := by
 unfold bspot
 have h : 0 ≤ z % 18446744073709551616 := Int.emod_nonneg _ (by decide)
 have h2 : z % 18446744073709551616 < 18446744073709551616 := Int.emod_lt_of_pos _ (by decide)
 rw [IntKind.wrap_u64 z]
 generalize z % 18446744073709551616 = u at h h2
 rw [Int.tdiv_eq_ediv_of_nonneg h, IntKind.wrap_u64, Int.emod_eq_of_lt (by omega) (by omega), Int.tmod_eq_emod_of_nonneg (by omega)]
 omega
set_option maxHeartbeats 8000000 in
theorem Ycm (X : List UInt8 → Nat → List UInt8 → Prop) (HLV : ∀ W, Calls Tryz.prog 7 #[] W (YesP W))
  (HPK : ∀ (p : Option Addr) (len cap : Nat) (xs : List UInt8) (how : Int) (W : World), Row W p xs → xs.length = len → len ≤ cap → cap ≤ maxLen → len ≤ 3000 → Calls Tryz.prog 10 #[.slice p len cap, .int .i64 how] W (Y8w X W xs how))
  (HX : ∀ (xs ys : List UInt8) (k : Nat), X xs k ys → Tells ys xs ∧ ys.length ≤ 2 * xs.length + 1300)
  (HO : ∀ (p : Option Addr) (len cap : Nat) (xs : List UInt8) (most : Int) (W : World), Row W p xs → xs.length = len → len ≤ cap → (p = none → cap = 0) → len ≤ 20000 → most ≤ 20000 → Calls Tryz.prog 8 #[.slice p len cap, .int .i64 most] W (Y6d true W xs most))
  (p : Option Addr) (len cap : Nat) (zs0 : List Int) (zt z : Int) (w : World) (hr0 : Y9c .u8 w p len cap zs0) (ht0 : (Lit.int .i64 zt).wf = true) (hz0 : (Lit.int .i64 z).wf = true) :
  Calls Tryz.prog 5 #[.slice p len cap, .int .i64 zt, .int .i64 z] w fun e w' => e = .returned (.bool true) ∧ Below w.heap.size w w' := by
 have HLV := Lib.hid HLV
 obtain ⟨xs, hx, hr, hlc, hcm, hnil⟩ := hr0.row
 obtain ⟨hzl, hzu⟩ := bounds_i64 hz0
 obtain ⟨htl, htu⟩ := bounds_i64 ht0
 have hcm2 := hcm
 unfold maxLen at hcm
 clear hr0 hz0 ht0
 by_cases hbig : 3000 < len
 ·have hd : decide (3000 < (len : Int)) = true := by simp; omega
  clear hr hx hnil HPK HX HO
  go_enter Tryz.func5, Tryz.ntmps5
  go_wp2_with fail
  refine (HLV.out w).mono ?_
  rintro e w1 ⟨rfl, hb1⟩
  go_wp2_with fail
  refine (HLV.out w1).mono ?_
  rintro e w2 ⟨rfl, hb2⟩
  go_wp2_with fail
  go_ret
  exact ⟨rfl, hb1.trans (hb2.mono hb1.size)⟩
 ·have hd : decide (3000 < (len : Int)) = false := by simp; omega
  have HXL := Lib.hid hx
  have HR := Lib.hid hr
  have hhp := Y8i zt 3 (by omega)
  have hhc : (IntKind.u64.wrap zt).tmod 3 = ((spot zt 3 : Nat) : Int) := Y4n zt 3
  generalize spot zt 3 = how at hhp hhc
  have HP := Lib.hid (fun W (hb : Below w.heap.size w W) => HPK p len cap xs (how : Int) W (hr.below hb) hx hlc hcm2 (by omega))
  have HXX := Lib.hid HX
  have HOP := Lib.hid HO
  clear hx hr HPK HX hcm2 HO
  go_enter Tryz.func5, Tryz.ntmps5
  go_wp2_with fail
  refine (HLV.out w).mono ?_
  rintro e w1 ⟨rfl, hb1⟩
  have HB1 := Lib.hid hb1
  have HPP := Lib.hid (HP.out w1 hb1)
  clear hb1 HP
  go_wp2_with fail
  refine HPP.out.mono ?_
  rintro e w2 hres
  obtain ⟨hb2, ys, g, c, N, hN, hX, rfl, hbeg, h1, h2, hgl⟩ := Ydo (by omega) hres
  obtain ⟨htell, hyl⟩ := HXX.out xs ys how hX
  have hy2 := Ywn (htell xs.length (Nat.le_refl _))
  rw [HXL.out] at hyl
  have hN8 : 8 ≤ N := by omega
  have hNl : N ≤ 8000 := by omega
  have hWL : (Y0n ys xs).length = N := by rw [Y11, hN]
  have HT := Lib.hid htell
  have HWL := Lib.hid hWL
  have HBG := Lib.hid hbeg
  have HB2 := Lib.hid (HB1.out.trans (hb2.mono HB1.out.size))
  have HGL := Lib.hid (Nat.le_trans HB1.out.size hgl)
  have hown := World.ownsRow_made (base := w2.heap.size) (e := 5) (size := 1) w2 #[] 0 (Nat.le_refl _) (by simp [maxLen]) rfl
  have hbA : Below w2.heap.size w2 (w2.alloc (.cells #[] 5)) := (Below.refl _ w2).alloc (Nat.le_refl _) _
  have HRA := Lib.hid (hbeg.row.below hbA)
  have HBA := Lib.hid hbA
  unfold maxLen at h2
  clear hb2 hbeg hbA hN hX hres htell hWL hhc hyl hy2 hgl HXX HPP
  go_wp2_with (at_builtin; refine Y0j rfl _ _ rfl w2.heap.size _ 0 [] rfl hown (some ⟨g, 0, none⟩) N c (Y0n ys xs) rfl HRA.out HWL.out (fun h => by cases h) (by omega) (by simp) ?_)
  intro v5 w5 hown5 hgrow5 hv5
  have HB5 := Lib.hid (HBA.out.trans (Y1l hown hgrow5 HBA.out.size))
  obtain ⟨q5, c5, rfl, _, _, _, _⟩ := Y5v hown5 HWL.out
  have hb3 : Below w5.heap.size w5 (w5.alloc (.cells (cellsOf [5, 6]).toArray 5)) := (Below.refl _ w5).alloc (Nat.le_refl _) _
  have HO5 := Lib.hid (Y3k hown5 hb3)
  have HR3 := Lib.hid (Yu4 w5 [5, 6] 5 (0, 0))
  have HB53 := Lib.hid (HB5.out.trans (hb3.mono HB5.out.size))
  have HZ5 := Lib.hid HB53.out.size
  clear hown hown5 hgrow5 hv5 HRA HBA hb3
  go_wp2_with (at_builtin; refine Y0j rfl _ _ rfl w2.heap.size _ N (Y0n ys xs) rfl HO5.out (some ⟨w5.heap.size, 0, none⟩) 2 2 [5, 6] rfl HR3.out rfl (fun h => by cases h) (by omega) HZ5.out ?_)
  intro v6 w6 hown6 hgrow6 hv6
  have hl6 : (Y0n ys xs ++ [5, 6]).length = N + 2 := by rw [List.length_append, HWL.out]; rfl
  obtain ⟨q6, c6, rfl, hq6, hc6, hm6, hrow6⟩ := Y5v hown6 hl6
  have HB6 := Lib.hid (HB53.out.trans (Y1l HO5.out hgrow6 HZ5.out))
  have HIN := Lib.hid (HOP.out q6 (N + 2) c6 (Y0n ys xs ++ [5, 6]) (len : Int) w6 hrow6 hl6 hc6 hq6 (by omega) (by omega))
  have HM := Lib.hid (Yan HT.out HXL.out [5, 6])
  rw [HWL.out] at HM
  clear hown6 hgrow6 hv6 hrow6 hl6 hm6 HO5 HZ5 HR3 HB5 HB53 hq6 hc6
  go_wp2_with fail
  refine HIN.out.mono ?_
  rintro e w7 hres
  obtain ⟨hb7, q7, c7, rfl, hrow7, _, _, _, hfr7⟩ := Ydi hres HM.out HXL.out
  have HB27 := Lib.hid (HB6.out.trans (hb7.mono HB6.out.size))
  have HRY := Lib.hid hrow7
  have HFR := Lib.hid (hfr7 rfl)
  have HG6 : Hid (g < w6.heap.size) := Lib.hid (Nat.lt_of_lt_of_le HBG.out.lt HB6.out.size)
  have HBG7 := Lib.hid (Y6w HBG.out HB27.out HBG.out.lt)
  have hsp := Y8i z N (by omega)
  have hsc := Y4n z N
  obtain ⟨i, hi⟩ : ∃ i, i = spot z N := ⟨_, rfl⟩
  rw [← hi] at hsp hsc
  have hsl := fun W => Yj5 W (some ⟨g, 0, none⟩) N c i (by omega)
  have b0 : (0 : Int) ≤ (i : Int) := by omega
  have b1 : (i : Int) ≤ (c : Int) := by omega
  have hhr := Yj4 c i HBG7.out.row
  have HIC := Lib.hid (HOP.out (Yf9 (some ⟨g, 0, none⟩) c) i c ((Y0n ys xs).take i) (len : Int) w7 hhr (by rw [List.length_take, HWL.out]; omega) (by omega) (fun h => by unfold Yf9 at h; split at h <;> cases h) (by omega) (by omega))
  have HCUT := Lib.hid (Yjk HT.out HXL.out i (by rw [HWL.out]; omega))
  clear hfr7 hrow7 hb7 hres HIN HM hi hhr
  go_wp2_with fail
  refine HIC.out.mono ?_
  rintro e w8 hres
  obtain ⟨hb8, rfl⟩ := Yao hres HCUT.out
  have HB78 := Lib.hid hb8
  have HBG8 := Lib.hid (Y6w HBG7.out hb8 HBG7.out.lt)
  clear hb8 hres HIC HCUT hsl hsc b0 b1
  have hjp := Y8i z 4 (by omega)
  have hjc : (IntKind.u64.wrap z).tmod 4 = ((spot z 4 : Nat) : Int) := Y4n z 4
  generalize spot z 4 = j at hjp hjc
  have hix : (Y0n ys xs).length - 1 - j < (Y0n ys xs).length := by rw [HWL.out]; omega
  have hcell := HBG8.out.get _ hix
  have hfz := HBG8.out.frozen ((Y0n ys xs).length - 1 - j)
  obtain ⟨x, hxv⟩ : ∃ x, x = (Y0n ys xs)[(Y0n ys xs).length - 1 - j] := ⟨_, rfl⟩
  rw [← hxv] at hcell
  rw [HWL.out] at hcell hfz
  have hsp8 := Ys9 z
  have hsc8 := Yks z
  generalize bspot z = s at hsp8 hsc8
  have hxor := Ykb x s hsp8
  have hne := Yr9 x s hsp8
  obtain ⟨c8, hc8⟩ : ∃ c8, c8 = x ^^^ Ys3 s := ⟨_, rfl⟩
  rw [← hc8] at hxor hne
  obtain ⟨ws, hws, hz4⟩ := Yap HT.out HXL.out j hjp hix c8 (by rw [← hxv]; exact hne)
  have hbeg9 := HBG8.out.put ((Y0n ys xs).length - 1 - j) c8
  rw [hws, HWL.out] at hbeg9
  have hl9 : (Y3b ys ws).length = N := by rw [← hws, List.length_set, HWL.out]
  have hg8 : g < w8.heap.size := HBG8.out.lt
  have hb9 : Below w.heap.size w8 (w8.setCell ⟨g, N - 1 - j, none⟩ (.int .u8 (c8.toNat : Int))) := (Below.refl _ w8).setCell HGL.out _
  have hrow9 : Row (w8.setCell ⟨g, N - 1 - j, none⟩ (.int .u8 (c8.toNat : Int))) q7 xs := Yxr (HRY.out.below HB78.out) _ _ fun b hb => by
   have := HFR.out b hb
   have := HG6.out
   show g ≠ b.block
   omega
  have HB9 := Lib.hid ((HB2.out.trans (HB27.out.mono HB2.out.size)).trans ((HB78.out.mono (HB2.out.trans (HB27.out.mono HB2.out.size)).size).trans hb9))
  have HRY9 := Lib.hid hrow9
  have HBG9 := Lib.hid hbeg9
  have HL9 := Lib.hid hl9
  have HZ4 := Lib.hid hz4
  generalize hw9 : w8.setCell ⟨g, N - 1 - j, none⟩ (.int .u8 (c8.toNat : Int)) = w9 at HB9 HRY9 HBG9
  clear hrow9 hbeg9 hb9 hl9 hws hz4 hc8 hne hxv hix hg8
  have HIH := Lib.hid (HOP.out (some ⟨g, 0, none⟩) N c (Y3b ys ws) (len : Int) w9 HBG9.out.row HL9.out (by omega) (fun h => by cases h) (by omega) (by omega))
  go_wp2_with fail
  refine HIH.out.mono ?_
  rintro e w10 hres
  obtain ⟨hb10, rfl⟩ := Yao hres HZ4.out
  have HB910 := Lib.hid hb10
  have HII := Lib.hid (HOP.out (some ⟨g, 0, none⟩) N c (Y3b ys ws) ((len : Int) - 1) w10 (HBG9.out.row.below hb10) HL9.out (by omega) (fun h => by cases h) (by omega) (by omega))
  have HLS := Lib.hid (Yhx (zs := ws) HT.out HXL.out)
  clear hb10 hres HIH hcell hfz hw9 hxor
  go_wp2_with fail
  refine HII.out.mono ?_
  rintro e w11 hres
  obtain ⟨hb11, rfl⟩ := Yao hres HLS.out
  have HB11 := Lib.hid (HB9.out.trans ((HB910.out.trans (hb11.mono HB910.out.size)).mono HB9.out.size))
  have ca1 := Y5y len c7 (HRY9.out.below (HB910.out.trans (hb11.mono HB910.out.size))) HXL.out
  have ca2 := Y5y len cap (HR.out.below HB11.out) HXL.out
  clear hb11 hres HII
  by_cases hl0 : len = 0
  ·have e0 : (if len = 0 then 1 else 8 : Nat) = 1 := if_pos hl0
   rw [e0]
   clear e0
   have d0 : ((len : Int) == 0) = true := by simp; omega
   rw [hl0] at ca1 ca2
   go_wp2_with fail
   go_ret
   exact ⟨rfl, HB11.out⟩
  ·have e0 : (if len = 0 then 1 else 8 : Nat) = 8 := if_neg hl0
   rw [e0]
   clear e0
   have d0 : ((len : Int) == 0) = false := by simp; omega
   have d1 : decide (0 < (len : Int)) = true := by simp; omega
   go_wp2_with fail
   go_ret
   exact ⟨rfl, HB11.out⟩
end Go.Proofs.YtkkfkmoikcmhoaaGreat.Zl
namespace Go.Proofs.YtkkfkmoikcmhoaaGreat.Zl
open Go.RowKit Oct
open Adl (sumN Beg Beg.of)
set_option maxRecDepth 100000
set_option maxHeartbeats 8000000 in
theorem Ygj (X : List UInt8 → Nat → List UInt8 → Prop) (HLV : ∀ W, Calls Tryz.prog 7 #[] W (YesP W))
  (HPK : ∀ (p : Option Addr) (len cap : Nat) (xs : List UInt8) (how : Int) (W : World), Row W p xs → xs.length = len → len ≤ cap → cap ≤ maxLen → len ≤ 3000 → Calls Tryz.prog 10 #[.slice p len cap, .int .i64 how] W (Y8w X W xs how))
  (HX : ∀ (xs ys : List UInt8) (k : Nat), X xs k ys → Tells ys xs ∧ ys.length ≤ 2 * xs.length + 1300)
  (HO : ∀ (p : Option Addr) (len cap : Nat) (xs : List UInt8) (most : Int) (W : World), Row W p xs → xs.length = len → len ≤ cap → (p = none → cap = 0) → len ≤ 20000 → most ≤ 20000 → Calls Tryz.prog 8 #[.slice p len cap, .int .i64 most] W (Y6d true W xs most))
  (p : Option Addr) (len cap : Nat) (zs0 : List Int) (tp : Option Addr) (tl tc : Nat) (zs1 : List Int) (zt z : Int) (w : World) (hr0 : Y9c .u8 w p len cap zs0) (hr1 : Y9c .u8 w tp tl tc zs1) (ht0 : (Lit.int .i64 zt).wf = true) (hz0 : (Lit.int .i64 z).wf = true) :
  Calls Tryz.prog 6 #[.slice p len cap, .slice tp tl tc, .agg #[.int .i64 zt, .int .i64 z]] w fun e w' => e = .returned (.bool true) ∧ Below w.heap.size w w' := by
 have HLV := Lib.hid HLV
 obtain ⟨xs, hx, hr, hlc, hcm, hnil⟩ := hr0.row
 obtain ⟨ts, htx, htr, htlc, htcm, htnil⟩ := hr1.row
 obtain ⟨hzl, hzu⟩ := bounds_i64 hz0
 obtain ⟨htl, htu⟩ := bounds_i64 ht0
 have hcm2 := hcm
 unfold maxLen at hcm htcm
 clear hr0 hr1 hz0 ht0
 have hbw : Below w.heap.size w (w.alloc (.cells #[.int .i64 zt, .int .i64 z] 36)) := (Below.refl _ w).alloc (Nat.le_refl _) _
 have HBX := Lib.hid hbw
 have k0 : (w.alloc (.cells #[.int .i64 zt, .int .i64 z] 36)).cell? ⟨w.heap.size, 0, none⟩ = some (.int .i64 zt) := by simp
 have k1 : (w.alloc (.cells #[.int .i64 zt, .int .i64 z] 36)).cell? ⟨w.heap.size, 1, none⟩ = some (.int .i64 z) := by simp
 clear hbw
 by_cases hbig : 600 < len ∨ 100 < tl
 ·have hd : decide (600 < (len : Int)) = true ∨ (decide (600 < (len : Int)) = false ∧ decide (100 < (tl : Int)) = true) := by
   by_cases h : 600 < len
   ·left; simp; omega
   ·right; constructor <;> simp <;> omega
  clear hr hx hnil HPK HX HO htx htr htnil
  rcases hd with hd | ⟨hd, hd'⟩
  all_goals
   go_enter Tryz.func6, Tryz.ntmps6
   go_wp2_with fail
   go_quiet (fail)
   go_wp2_with fail
   refine (HLV.out _).mono ?_
   rintro e w1 ⟨rfl, hb1⟩
   go_wp2_with fail
   refine (HLV.out w1).mono ?_
   rintro e w2 ⟨rfl, hb2⟩
   go_wp2_with fail
   go_ret
   exact ⟨rfl, (HBX.out.trans ((show Drawn _ _ from ⟨_, rfl⟩ : Drawn (w.alloc (.cells #[.int .i64 zt, .int .i64 z] 36)) _).below _)).trans ((hb1.trans (hb2.mono hb1.size)).mono (by simp))⟩
 ·have hd : decide (600 < (len : Int)) = false := by simp; omega
  have hd' : decide (100 < (tl : Int)) = false := by simp; omega
  have HXL := Lib.hid hx
  have HTX := Lib.hid htx
  have HR := Lib.hid hr
  have HTR := Lib.hid htr
  have hhp := Y8i zt 3 (by omega)
  have hhc : (IntKind.u64.wrap zt).tmod 3 = ((spot zt 3 : Nat) : Int) := Y4n zt 3
  generalize spot zt 3 = how at hhp hhc
  have HP := Lib.hid (fun W (hb : Below w.heap.size w W) => HPK p len cap xs (how : Int) W (hr.below hb) hx hlc hcm2 (by omega))
  have HXX := Lib.hid HX
  have HOP := Lib.hid HO
  clear hx hr HPK HX hcm2 HO htx htr
  go_enter Tryz.func6, Tryz.ntmps6
  go_wp2_with fail
  go_quiet (fail)
  have hbq : Below w.heap.size w ((w.alloc (.cells #[.int .i64 zt, .int .i64 z] 36)).drewN nq) := HBX.out.trans ((show Drawn (w.alloc (.cells #[.int .i64 zt, .int .i64 z] 36)) _ from ⟨nq, rfl⟩).below _)
  have HBQ := Lib.hid hbq
  clear hbq HBX k0 k1
  generalize (w.alloc (.cells #[.int .i64 zt, .int .i64 z] 36)).drewN nq = w0 at *
  go_wp2_with fail
  refine (HLV.out w0).mono ?_
  rintro e w1 ⟨rfl, hb1⟩
  have HB1 := Lib.hid (HBQ.out.trans (hb1.mono HBQ.out.size))
  have HPP := Lib.hid (HP.out w1 HB1.out)
  clear hb1 HP
  go_wp2_with fail
  refine HPP.out.mono ?_
  rintro e w2 hres
  obtain ⟨hb2, ys, g, c, N, hN, hX, rfl, hbeg, h1, h2, hgl⟩ := Ydo (by omega) hres
  obtain ⟨htell, hyl⟩ := HXX.out xs ys how hX
  rw [HXL.out] at hyl
  have hN6 : 6 ≤ N := by omega
  have hNl : N ≤ 8000 := by omega
  have hWL : (Y0n ys xs).length = N := by rw [Y11, hN]
  have HT := Lib.hid htell
  have HWL := Lib.hid hWL
  have HBG := Lib.hid hbeg
  have HB2 := Lib.hid (HB1.out.trans (hb2.mono HB1.out.size))
  have hown := World.ownsRow_made (base := w2.heap.size) (e := 5) (size := 1) w2 #[] 0 (Nat.le_refl _) (by simp [maxLen]) rfl
  have hbA : Below w2.heap.size w2 (w2.alloc (.cells #[] 5)) := (Below.refl _ w2).alloc (Nat.le_refl _) _
  have HRA := Lib.hid (hbeg.row.below hbA)
  have HBA := Lib.hid hbA
  unfold maxLen at h2
  clear hb2 hbeg hbA hN hX hres htell hWL hhc hyl hgl HXX HPP
  go_wp2_with (at_builtin; refine Y0j rfl _ _ rfl w2.heap.size _ 0 [] rfl hown (some ⟨g, 0, none⟩) N c (Y0n ys xs) rfl HRA.out HWL.out (fun h => by cases h) (by omega) (by simp) ?_)
  intro v5 w5 hown5 hgrow5 hv5
  have HB5 := Lib.hid (HBA.out.trans (Y1l hown hgrow5 HBA.out.size))
  obtain ⟨q5, c5, rfl, _, _, _, _⟩ := Y5v hown5 HWL.out
  have HO5 := Lib.hid hown5
  have HR3 := Lib.hid (HTR.out.below (HB2.out.trans (HB5.out.mono HB2.out.size)))
  have HZ5 := Lib.hid HB5.out.size
  clear hown hown5 hgrow5 hv5 HRA HBA
  go_wp2_with (at_builtin; refine Y0j rfl _ _ rfl w2.heap.size _ N (Y0n ys xs) rfl HO5.out tp tl tc ts rfl HR3.out HTX.out htnil (by omega) HZ5.out ?_)
  intro v6 w6 hown6 hgrow6 hv6
  have hl6 : (Y0n ys xs ++ ts).length = N + tl := by rw [List.length_append, HWL.out, HTX.out]
  obtain ⟨q6, c6, rfl, hq6, hc6, hm6, hrow6⟩ := Y5v hown6 hl6
  have HB6 := Lib.hid (HB5.out.trans (Y1l HO5.out hgrow6 HZ5.out))
  have HIN := Lib.hid (HOP.out q6 (N + tl) c6 (Y0n ys xs ++ ts) (len : Int) w6 hrow6 hl6 hc6 hq6 (by omega) (by omega))
  have HM := Lib.hid (Yan HT.out HXL.out ts)
  rw [HWL.out] at HM
  clear hown6 hgrow6 hv6 hrow6 hl6 hm6 HO5 HZ5 HR3 HB5 hq6 hc6
  go_wp2_with fail
  refine HIN.out.mono ?_
  rintro e w7 hres
  obtain ⟨hb7, q7, c7, rfl, hrow7, _, _, _, hfr7⟩ := Ydi hres HM.out HXL.out
  have HB27 := Lib.hid (HB6.out.trans (hb7.mono HB6.out.size))
  have HB7 := Lib.hid (HB2.out.trans (HB27.out.mono HB2.out.size))
  have HBG7 := Lib.hid (Y6w HBG.out HB27.out HBG.out.lt)
  have ca1 := Y5y len c7 hrow7 HXL.out
  have ca2 := Y5y len cap (HR.out.below HB7.out) HXL.out
  have hkp := Y8i z 32 (by omega)
  have hkc : (IntKind.u64.wrap z).tmod 32 = ((spot z 32 : Nat) : Int) := Y4n z 32
  obtain ⟨kk, hkk⟩ : ∃ kk, kk = spot z 32 := ⟨_, rfl⟩
  rw [← hkk] at hkp hkc
  have hown := World.ownsRow_made (base := w7.heap.size) (e := 5) (size := 1) w7 #[] 0 (Nat.le_refl _) (by simp [maxLen]) rfl
  have hbA : Below w7.heap.size w7 (w7.alloc (.cells #[] 5)) := (Below.refl _ w7).alloc (Nat.le_refl _) _
  have HRA := Lib.hid (HBG7.out.row.below hbA)
  have HBA := Lib.hid hbA
  clear hrow7 hfr7 hb7 hres HIN HM hkk hbA
  go_wp2_with (at_builtin; refine Y0j rfl _ _ rfl w7.heap.size _ 0 [] rfl hown (some ⟨g, 0, none⟩) N c (Y0n ys xs) rfl HRA.out HWL.out (fun h => by cases h) (by omega) (by simp) ?_)
  intro v8 w8 hown8 hgrow8 hv8
  have HB8 := Lib.hid (HBA.out.trans (Y1l hown hgrow8 HBA.out.size))
  have hown9 : BOwn w8 w7.heap.size v8 (Y0n ys xs) := by
   unfold BOwn
   rw [HWL.out]
   simpa using hown8
  have hvn := Yjn hown9 (by rw [HWL.out]; omega)
  have hown10 : w8.ownsRow w7.heap.size 5 1 v8 N (cellsOf (Y0n ys xs)) := by simpa using hown8
  obtain ⟨g8, c8, rfl, hc81, hc82, hg8, hg8l, hbeg8⟩ := Beg.of hown10 HWL.out hvn
  have HBG8 := Lib.hid hbeg8
  have HG8 := Lib.hid hg8
  have HRP := Lib.hid (HBG7.out.row.below HB8.out)
  have hkj : kk / 8 < 4 := by omega
  obtain ⟨j, hj⟩ : ∃ j, j = kk / 8 := ⟨_, rfl⟩
  obtain ⟨s, hs⟩ : ∃ s, s = kk % 8 := ⟨_, rfl⟩
  have hjp : j < 4 := by omega
  have hsp8 : s < 8 := by omega
  have hjz : (kk : Int) / 8 = (j : Int) := by omega
  have hsz : (kk : Int).tmod 8 = (s : Int) := by rw [Int.tmod_eq_emod_of_nonneg (by omega)]; omega
  have hs0 : (0 : Int) ≤ (s : Int) := by omega
  have hs1 : (s : Int) ≤ 8 := by omega
  have HIX := Lib.hid (show (Y0n ys xs).length - 1 - j < (Y0n ys xs).length by rw [HWL.out]; omega)
  have hcell := HBG8.out.get _ HIX.out
  have hfz := HBG8.out.frozen ((Y0n ys xs).length - 1 - j)
  obtain ⟨x, hxv⟩ : ∃ x, x = (Y0n ys xs)[(Y0n ys xs).length - 1 - j]'HIX.out := ⟨_, rfl⟩
  rw [← hxv] at hcell
  rw [HWL.out] at hcell hfz
  have HXV := Lib.hid hxv
  unfold maxLen at hc82
  clear hown hown8 hown9 hown10 hgrow8 hv8 hvn hbeg8 hg8 hxv hj hs HRA HBA
  obtain ⟨ix, hixe⟩ : ∃ ix, ix = N - 1 - j := ⟨_, rfl⟩
  rw [← hixe] at hcell hfz
  have hi1 : IntKind.i64.wrap (IntKind.i64.wrap ((N : Int) - 1) - IntKind.i64.wrap (j : Int)) = (ix : Int) := by rw [IntKind.wrap_i64, IntKind.wrap_i64, IntKind.wrap_i64]; omega
  have hi2 : (0 : Int) ≤ (ix : Int) := by omega
  have hi3 : (ix : Int) < (N : Int) := by omega
  have HIE := Lib.hid hixe
  clear hixe
  go_wp2_with fail
  go_still_tail 14, (by kernel_rfl)
  obtain ⟨w9, hw9⟩ : ∃ w9, w9 = w8.drew := ⟨_, rfl⟩
  have hd9 : Below w8.heap.size w8 w9 := (show Drawn w8 w9 from ⟨1, hw9⟩).below _
  have hcell9 : w9.cell? ⟨g8, ix, none⟩ = some (.int .u8 (x.toNat : Int)) := by rw [hw9]; exact hcell
  have hfz9 : w9.frozen? ⟨g8, ix, none⟩ = false := by rw [hw9]; exact hfz
  have HD9 := Lib.hid hd9
  change wpList _ _ _ _ _ w8.drew
  rw [← hw9]
  have hxor := Ykb x s hsp8
  have hne := Yr9 x s hsp8
  obtain ⟨cb, hcb⟩ : ∃ cb, cb = x ^^^ Ys3 s := ⟨_, rfl⟩
  rw [← hcb] at hxor hne
  obtain ⟨ws, hws, hz4⟩ := Yap HT.out HXL.out j hjp HIX.out cb (by rw [← HXV.out]; exact hne)
  have hbeg10 := (Y6w HBG8.out hd9 HBG8.out.lt).put ((Y0n ys xs).length - 1 - j) cb
  rw [hws, HWL.out, ← HIE.out] at hbeg10
  have hl10 : (Y3b ys ws).length = N := by rw [← hws, List.length_set, HWL.out]
  have hb9 : Below w7.heap.size w7 w9 := HB8.out.trans (hd9.mono HB8.out.size)
  have hb10 : Below w7.heap.size w7 (w9.setCell ⟨g8, ix, none⟩ (.int .u8 (cb.toNat : Int))) := hb9.trans ((Below.refl _ w9).setCell HG8.out _)
  have HB710 := Lib.hid hb10
  have HBG10 := Lib.hid hbeg10
  have HL10 := Lib.hid hl10
  have HZ4 := Lib.hid hz4
  generalize hw10 : w9.setCell ⟨g8, ix, none⟩ (.int .u8 (cb.toNat : Int)) = w10 at HB710 HBG10
  have HB10 := Lib.hid (HB7.out.trans (HB710.out.mono HB7.out.size))
  have HIH := Lib.hid (HOP.out (some ⟨g8, 0, none⟩) N c8 (Y3b ys ws) (len : Int) w10 HBG10.out.row HL10.out (by omega) (fun h => by cases h) (by omega) (by omega))
  clear hw9 hd9 hcell hfz hbeg10 hb9 hb10 hl10 hws hz4 hcb hne
  go_wp2_with fail
  refine HIH.out.mono ?_
  rintro e w11 hres
  obtain ⟨hb11, rfl⟩ := Yao hres HZ4.out
  have HB711 := Lib.hid (HB710.out.trans (hb11.mono HB710.out.size))
  have HB11 := Lib.hid (HB7.out.trans (HB711.out.mono HB7.out.size))
  have hsp := Y8i z N (by omega)
  have hsc := Y4n z N
  obtain ⟨i, hi⟩ : ∃ i, i = spot z N := ⟨_, rfl⟩
  rw [← hi] at hsp hsc
  have hsl := fun W => Yj5 W (some ⟨g, 0, none⟩) N c i (by omega)
  have b0 : (0 : Int) ≤ (i : Int) := by omega
  have b1 : (i : Int) ≤ (c : Int) := by omega
  have hhr := Yj4 c i (HBG7.out.row.below HB711.out)
  have HIC := Lib.hid (HOP.out (Yf9 (some ⟨g, 0, none⟩) c) i c ((Y0n ys xs).take i) (len : Int) w11 hhr (by rw [List.length_take, HWL.out]; omega) (by omega) (fun h => by unfold Yf9 at h; split at h <;> cases h) (by omega) (by omega))
  have HCUT := Lib.hid (Yjk HT.out HXL.out i (by rw [HWL.out]; omega))
  clear hb11 hres HIH hi hhr hcell9 hfz9 hw10 hxor hi1 hi2 hi3 hsz hjz hkc
  go_wp2_with fail
  refine HIC.out.mono ?_
  rintro e w12 hres
  obtain ⟨hb12, rfl⟩ := Yao hres HCUT.out
  have HB12 := Lib.hid (HB11.out.trans (hb12.mono HB11.out.size))
  clear hb12 hres HIC HCUT hsl hsc b0 b1
  go_wp2_with fail
  go_ret
  exact ⟨rfl, HB12.out⟩
end Go.Proofs.YtkkfkmoikcmhoaaGreat.Zl
namespace Go.Proofs.YtkkfkmoikcmhoaaGreat.Zl
open Go.RowKit Oct
set_option maxRecDepth 100000
theorem Yki (p : Option Addr) (len cap : Nat) (zs0 : List Int) (zt z : Int) (w : World) (hr0 : Y9c .u8 w p len cap zs0) (ht0 : (Lit.int .i64 zt).wf = true) (hz0 : (Lit.int .i64 z).wf = true) :
  Calls Tryz.prog 5 #[.slice p len cap, .int .i64 zt, .int .i64 z] w fun e w' => e = .returned (.bool true) ∧ Below w.heap.size w w' :=
 Ycm Df.DefX Yfk Ydn (fun xs ys k h => ⟨h.inf, h.len⟩) Ydh p len cap zs0 zt z w hr0 ht0 hz0
theorem Yr0 (p : Option Addr) (len cap : Nat) (zs0 : List Int) (tp : Option Addr) (tl tc : Nat) (zs1 : List Int) (zt z : Int) (w : World) (hr0 : Y9c .u8 w p len cap zs0) (hr1 : Y9c .u8 w tp tl tc zs1) (ht0 : (Lit.int .i64 zt).wf = true) (hz0 : (Lit.int .i64 z).wf = true) :
  Calls Tryz.prog 6 #[.slice p len cap, .slice tp tl tc, .agg #[.int .i64 zt, .int .i64 z]] w fun e w' => e = .returned (.bool true) ∧ Below w.heap.size w w' :=
 Ygj Df.DefX Yfk Ydn (fun xs ys k h => ⟨h.inf, h.len⟩) Ydh p len cap zs0 tp tl tc zs1 zt z w hr0 hr1 ht0 hz0
end Go.Proofs.YtkkfkmoikcmhoaaGreat.Zl
namespace Go.Proofs.YtkkfkmoikcmhoaaGreat.Zl
open Go.ChangeShapes Go.WideShapes Go.ChangeAt Go.RowKit
theorem Ytn {H : Type} {enc : TypeId × Value → H} {P : Program} {w : World} {base : Nat} {sp : Nat → Bool} {held : Bool} {r : Reach} {b0 : Nat} {t e : TypeId} {v : Value} {d : DataW H} {p : List MemPlace}
  (ht : P.underlying t = some (.array 2 e)) (hC : P.cellsOf t = 2) (hE : P.cellsOf e = 1) (he : P.underlying e = some (.int .i64)) (hv : Value.okWide P w r b0 t v) (h : DataW.Trod enc P w base sp held t v d p) :
  ∃ a b, v = .agg #[.int .i64 a, .int .i64 b] ∧ (Lit.int .i64 a).wf = true ∧ (Lit.int .i64 b).wf = true := by
 obtain ⟨cs, rfl, hsz⟩ : ∃ cs, v = .agg cs ∧ cs.size = P.cellsOf t := by
  simp only [Value.okWide, ht] at hv
  obtain ⟨cs, h1, h2, _⟩ := hv
  exact ⟨cs, h1, h2⟩
 obtain ⟨c0, c1, rfl⟩ := Joins.array2 (hsz.trans hC)
 obtain ⟨fuel, hf⟩ := h
 obtain ⟨xs, m, _, _, _, hl, hi⟩ := DataW.trod_array ht hf
 match xs, hl with
 | [y0, y1], _ =>
  have h0 := hi 0 (by decide)
  have h1 := hi 1 (by decide)
  rw [hE] at h0 h1
  obtain ⟨a, ea, _, wa⟩ := DataW.trod_int he (x := y0) (by simpa [Value.cells] using h0)
  obtain ⟨b, eb, _, wb⟩ := DataW.trod_int he (x := y1) (by simpa [Value.cells] using h1)
  simp at ea eb
  subst ea eb
  exact ⟨a, b, rfl, wa, wb⟩
end Go.Proofs.YtkkfkmoikcmhoaaGreat.Zl
