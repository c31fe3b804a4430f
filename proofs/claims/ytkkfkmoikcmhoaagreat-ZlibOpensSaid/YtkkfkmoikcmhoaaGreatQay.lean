/- ZlE, ZlW, ZlF: merged. -/
import Derived.StillTailTactics
import Derived.Test.YtkkfkmoikcmhoaaGreatQaa
import Derived.Test.YtkkfkmoikcmhoaaGreatQae
import Derived.Test.YtkkfkmoikcmhoaaGreatQag
import Derived.Test.YtkkfkmoikcmhoaaGreatQak
import Derived.Test.YtkkfkmoikcmhoaaGreatQap
import Derived.Test.YtkkfkmoikcmhoaaGreatQar
import Derived.Test.YtkkfkmoikcmhoaaGreatQas
import Derived.Test.YtkkfkmoikcmhoaaGreatQax
set_option linter.unusedVariables false
set_option linter.unusedSimpArgs false
namespace Go.Proofs.YtkkfkmoikcmhoaaGreat.Zl
open Go.RowKit Oct
set_option maxRecDepth 100000
theorem def_g {w w' : World} {xs : List UInt8} {how : Int} {e : Ending} (h : Df.DefP w xs how e w') : DefG Df.DefX w xs how e w' := by
 obtain ⟨hb, h | ⟨k, ys, q, c, h1, h2, h3, h4, h5, h6, h7, h8, _⟩⟩ := h
 ·exact ⟨hb, .inl h⟩
 ·exact ⟨hb, .inr ⟨k, ys, q, c, h1, h2, h3, h3.len, h4, h5, h6, h7, h8⟩⟩
theorem Yge (W : World) : Row W none [] := fun h => absurd h (by simp)
theorem Yiw (W : World) : Calls Tryz.prog 10 #[.slice none 0 0, .int .i64 0] W (Ycw Df.DefX W [] 0) :=
 Yl5 Df.DefX W none 0 0 [] 0 (Yge W) rfl (by omega) ((Df.Yat W none 0 0 [] (Yge W) rfl (Nat.le_refl _) (by simp [maxLen]) (by simp)).mono fun e w' h => def_g h)
theorem Yf1 (ys : List UInt8) (h : Df.DefX [] 0 ys) : ys = [1, 0, 0, 255, 255] := by rw [h.sto rfl, Ycl]
theorem inf_g {w w' : World} {xs : List UInt8} {M : Nat} {e : Ending} (h : Inf.Yln w xs (M : Int) e w') : InfG true w xs M e w' := by
 have hz : Inf.Y6x xs (M : Int) = Inf.inflate xs M := by unfold Inf.Y6x; rw [if_neg (by omega), Int.toNat_natCast]
 unfold Inf.Yln at h
 rw [hz] at h
 obtain ⟨hb, ⟨o, k, q, c, h1, h2, h3, h4, h5, h6, h7, h8⟩ | h⟩ := h
 ·exact ⟨hb, .inl ⟨o, k, q, c, h1, h2, h3, h4, h5, h6, h7, fun _ => h8⟩⟩
 ·exact ⟨hb, .inr h⟩
theorem Yc7 (p : Option Addr) (len cap : Nat) (xs : List UInt8) (most : Int) (W : World) (hr : Row W p xs) (hx : xs.length = len) (hc : len ≤ cap) (hn : p = none → cap = 0) (hl : len ≤ 20000) (hm : most ≤ 20000) :
  Calls Tryz.prog 8 #[.slice p len cap, .int .i64 most] W (Y4v true W xs most) := by
 by_cases hneg : most < 0
 ·have HRES : Hid (Y4v true W xs most (.returned (.tuple #[.slice none 0 0, .int .i64 0, .int .i64 1])) W) := Lib.hid ⟨Below.refl _ _, .inr ⟨1, by unfold Y2s; rw [if_pos hneg], by decide, rfl⟩⟩
  clear hr hx hn
  go_enter Tryz.func8, Tryz.ntmps8
  go_wp2_with fail
  go_ret3
  exact HRES.out
 ·obtain ⟨M, rfl⟩ : ∃ M : Nat, most = (M : Int) := ⟨most.toNat, by omega⟩
  exact Yl2 true p len cap xs (M : Int) W hr hx hc hn (by omega) (by omega) fun q c V hV hq => (Inf.Yb2 q (len - 2) c (xs.drop 2) (M : Int) V hV (by rw [List.length_drop, hx]) hq (by omega) (by omega)).mono fun e w' h => by
   rw [Int.toNat_natCast]
   exact inf_g h
theorem Yma {w w' : World} {xs : List UInt8} {M : Nat} {e : Ending} (h : Inf.Yhp w xs (M : Int) e w') : Yly w xs M e w' := by
 have hz : Inf.Y6x xs (M : Int) = Inf.inflate xs M := by unfold Inf.Y6x; rw [if_neg (by omega), Int.toNat_natCast]
 unfold Inf.Yhp at h
 rw [hz] at h
 exact h
theorem Ygd (xs : List UInt8) (most : Int) (W : World) (hx : xs.length ≤ 500) (hm : most ≤ 20000) (hm0 : -9223372036854775808 ≤ most) : Calls Tryz.prog 9 #[.string (bs xs), .int .i64 most] W (Y3j W xs most) := by
 by_cases hneg : most < 0
 ·have HRES : Hid (Y3j W xs most (.returned (.tuple #[.string ByteArray.empty, .int .i64 0, .int .i64 1])) W) := Lib.hid ⟨Below.refl _ _, .inr ⟨1, by unfold Y2s; rw [if_pos hneg], by decide, rfl⟩⟩
  go_enter Tryz.func9, Tryz.ntmps9
  go_wp2_with fail
  go_ret3
  exact HRES.out
 ·obtain ⟨M, rfl⟩ : ∃ M : Nat, most = (M : Int) := ⟨most.toNat, by omega⟩
  exact Yj8 xs (M : Int) W (by omega) hm hm0 fun V => (Inf.Y9x (xs.drop 2) (M : Int) V (by rw [List.length_drop]; omega) hm hm0).mono fun e w' h => by
   rw [Int.toNat_natCast]
   exact Yma h
theorem Yij (w : World) : Calls Tryz.prog 7 #[] w (YesP w) :=
 Yii true Df.DefX w Yf1 Yiw fun W g c hr hc => Yc7 (some ⟨g, 0, none⟩) 11 c _ 0 W hr rfl hc (fun h => by cases h) (by omega) (by omega)
end Go.Proofs.YtkkfkmoikcmhoaaGreat.Zl
namespace Go.Proofs.YtkkfkmoikcmhoaaGreat.Zl
open Go.RowKit Oct
set_option maxRecDepth 100000
set_option maxHeartbeats 8000000 in
theorem Y8b (fr : Bool) (HLV : ∀ W, Calls Tryz.prog 7 #[] W (YesP W))
  (HO : ∀ (p : Option Addr) (len cap : Nat) (xs : List UInt8) (most : Int) (W : World), Row W p xs → xs.length = len → len ≤ cap → (p = none → cap = 0) → len ≤ 500 → most ≤ 20000 → Calls Tryz.prog 8 #[.slice p len cap, .int .i64 most] W (Y4v fr W xs most))
  (RO : ∀ (xs : List UInt8) (most : Int) (W : World), xs.length ≤ 500 → most ≤ 20000 → -9223372036854775808 ≤ most → Calls Tryz.prog 9 #[.string (bs xs), .int .i64 most] W (Y3j W xs most))
  (p : Option Addr) (len cap : Nat) (zs : List Int) (most : Int) (w : World) (hr0 : Yei .u8 w p len cap zs) (hw0 : (Lit.int .i64 most).wf = true) :
  Calls Tryz.prog 3 #[.slice p len cap, .int .i64 most] w fun e w' => e = .returned (.bool true) ∧ Below w.heap.size w w' := by
 have HLV := Lib.hid HLV
 obtain ⟨xs, hx, hr, hlc, hcm, hnil⟩ := hr0.row
 clear hr0
 unfold maxLen at hcm
 have hb64 := bounds_i64 hw0
 clear hw0
 by_cases hbig : len ≤ 400 ∧ most ≤ 20000
 ·obtain ⟨hl5, hm2⟩ := hbig
  have q1 : decide (400 < (len : Int)) = false := by simp; omega
  have q2 : decide (20000 < most) = false := by simp; omega
  have HR := Lib.hid hr
  have HX := Lib.hid hx
  have HNIL := Lib.hid hnil
  have HOP := Lib.hid HO
  clear hr hx hnil HO
  go_enter Tryz.func3, Tryz.ntmps3
  go_wp2_with fail
  refine (HLV.out w).mono ?_
  rintro e w1 ⟨rfl, hb1⟩
  have hown := World.ownsRow_made (base := w1.heap.size) (e := 5) (size := 1) w1 #[] 0 (Nat.le_refl _) (by simp [maxLen]) rfl
  have hbA : Below w1.heap.size w1 (w1.alloc (.cells #[] 5)) := (Below.refl _ w1).alloc (Nat.le_refl _) _
  have HRA := Lib.hid (HR.out.below (hb1.trans (hbA.mono hb1.size)))
  have HBA := Lib.hid hbA
  have HB1 := Lib.hid hb1
  clear hb1 hbA
  go_wp2_with (at_builtin; refine Y1i rfl _ _ rfl w1.heap.size _ 0 [] rfl hown p len cap xs rfl HRA.out HX.out HNIL.out (by omega) (by simp) ?_)
  intro v5 w5 hown5 hgrow5 hv5
  have HB5 := Lib.hid (HBA.out.trans (Y37 hown hgrow5 HBA.out.size))
  obtain ⟨q5, c5, rfl, hq5, hc5, hm5, hrow5⟩ := Y1t hown5 HX.out
  have HD := Lib.hid (HOP.out q5 len c5 xs most w5 hrow5 HX.out hc5 hq5 (by omega) hm2)
  have HR5 := Lib.hid hrow5
  have HBW := Lib.hid (HB1.out.trans (HB5.out.mono HB1.out.size))
  clear hown hown5 hgrow5 hv5 HRA HBA hrow5 hm5 hc5
  go_wp2_with fail
  refine HD.out.mono ?_
  rintro e w3 ⟨hb3, hres⟩
  have HB3 := Lib.hid (HBW.out.trans (hb3.mono HBW.out.size))
  have HCVB := Lib.hid (fun W (hb : Below w.heap.size w W) => Y1q len cap (HR.out.below hb) HX.out)
  have HCVO := Lib.hid (fun W (hb : Below w5.heap.size w5 W) => Y1q len c5 (HR5.out.below hb) HX.out)
  have HB23 := Lib.hid hb3
  have cb3 := HCVB.out w3 HB3.out
  have HRI := Lib.hid (RO xs most w3 (by rw [HX.out]; omega) hm2 hb64.1)
  clear hb3 HOP HD RO
  rcases hres with ⟨o, k, q, c, hz, rfl, hrow, hq, hoc, hcm9, hk⟩ | ⟨c, hz, hc0, rfl⟩
  ·have HZ := Lib.hid hz
   have HROW := Lib.hid hrow
   clear hz hrow hq
   go_wp2_with fail
   refine HRI.out.mono ?_
   rintro e w4 ⟨hb4, hres⟩
   rcases hres with ⟨o', k', hz', rfl⟩ | ⟨c', hz', hc8, rfl⟩
   ·rw [HZ.out] at hz'
    cases hz'
    have HB4 := Lib.hid (HB3.out.trans (hb4.mono HB3.out.size))
    have co4 := HCVO.out w4 (HB23.out.trans (hb4.mono HB23.out.size))
    have cb4 := HCVB.out w4 HB4.out
    have cx4 := Y1q o.length c (HROW.out.below hb4) rfl
    clear hb4 cb3
    go_wp2_with fail
    go_ret
    exact ⟨rfl, HB4.out⟩
   ·rw [HZ.out] at hz'
    cases hz'
  ·have HZ := Lib.hid hz
   clear hz
   go_wp2_with fail
   refine HRI.out.mono ?_
   rintro e w4 ⟨hb4, hres⟩
   rcases hres with ⟨o', k', hz', rfl⟩ | ⟨c', hz', hc8, rfl⟩
   ·rw [HZ.out] at hz'
    cases hz'
   ·rw [HZ.out] at hz'
    cases hz'
    have HB4 := Lib.hid (HB3.out.trans (hb4.mono HB3.out.size))
    have co4 := HCVO.out w4 (HB23.out.trans (hb4.mono HB23.out.size))
    have cb4 := HCVB.out w4 HB4.out
    have j1 : (0 : Int) ≤ (c : Int) := by omega
    have j2 : (c : Int) ≤ 8 := by omega
    have cn : (convert 22 9 (.slice none 0 0)).run Tryz.prog w4 = .ok (.string ByteArray.empty) w4 := Y1q (w := w4) (p := none) (xs := []) 0 0 (fun h => absurd h (by simp)) rfl
    clear hb4 cb3
    go_wp2_with fail
    go_ret
    exact ⟨rfl, HB4.out⟩
 ·clear HO RO
  go_enter Tryz.func3, Tryz.ntmps3
  go_wp2_with fail
  refine (HLV.out w).mono ?_
  rintro e w1 ⟨rfl, hb1⟩
  have HB1 := Lib.hid hb1
  clear hb1 hr hx hnil
  by_cases h1 : len ≤ 400
  ·have q1 : decide (400 < (len : Int)) = false := by simp; omega
   have q2 : decide (20000 < most) = true := by simp; omega
   clear hbig h1
   go_wp2_with fail
   refine (HLV.out w1).mono ?_
   rintro e w2 ⟨rfl, hb2⟩
   have HB2 := Lib.hid (HB1.out.trans (hb2.mono HB1.out.size))
   clear hb2
   go_wp2_with fail
   go_ret
   exact ⟨rfl, HB2.out⟩
  ·have q1 : decide (400 < (len : Int)) = true := by simp; omega
   clear hbig h1
   go_wp2_with fail
   refine (HLV.out w1).mono ?_
   rintro e w2 ⟨rfl, hb2⟩
   have HB2 := Lib.hid (HB1.out.trans (hb2.mono HB1.out.size))
   clear hb2
   go_wp2_with fail
   go_ret
   exact ⟨rfl, HB2.out⟩
end Go.Proofs.YtkkfkmoikcmhoaaGreat.Zl
namespace Go.Proofs.YtkkfkmoikcmhoaaGreat.Zl
open Go.RowKit Oct
set_option maxRecDepth 100000
theorem Ydu (p : Option Addr) (len cap : Nat) (zs : List Int) (most : Int) (w : World) (hr0 : Yei .u8 w p len cap zs) (hw0 : (Lit.int .i64 most).wf = true) :
  Calls Tryz.prog 3 #[.slice p len cap, .int .i64 most] w fun e w' => e = .returned (.bool true) ∧ Below w.heap.size w w' :=
 Y8b true Yij (fun p len cap xs most W hr hx hc hn hl hm => Yc7 p len cap xs most W hr hx hc hn (by omega) hm) Ygd p len cap zs most w hr0 hw0
end Go.Proofs.YtkkfkmoikcmhoaaGreat.Zl
