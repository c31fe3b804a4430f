/- The contract of packbits.Encode: whole pieces that stand for the bytes, and hardly more of them. -/
import Derived.Test.YtcgoejijeeeanaaPbD
namespace Go.Proofs.Ytcgoejijeeeanaa.Pb
open Go.RowKit Go.Proofs.Ytcgoejijeeeanaa.Oct
set_option linter.unusedVariables false

theorem row_new (w : World) (xs : List UInt8) (T : Nat) (fr : Nat × Nat) : Row (w.alloc (.cells (cellsOf xs).toArray T fr)) (some ⟨w.heap.size, 0, none⟩) xs := by
  intro _
  refine ⟨w.heap.size, 0, rfl, by simp, fun i h => ?_⟩
  rw [World.cell?_alloc_mark, Nat.zero_add]
  simp [cellsOf, h]
/-- what Encode answers, and where -/
def EncP (xs : List UInt8) (w : World) (e : Ending) (w' : World) : Prop :=
  ∃ v out, e = .returned v ∧ w'.ownsRow w.heap.size 5 1 v out.length (cellsOf out) ∧ Pk out xs ∧ out.length ≤ xs.length + (xs.length + 127) / 128 ∧ Below w.heap.size w w'
def sliceLen : Value → Nat
  | .slice _ n _ => n
  | _ => 0
theorem take_more (xs : List UInt8) (a n : Nat) : xs.take (a + n) = xs.take a ++ (xs.drop a).take n := List.take_add
set_option maxHeartbeats 1000000 in
set_option maxRecDepth 100000 in
theorem encode_any (p : Option Addr) (len cap : Nat) (xs : List UInt8) (w : World) (hr : Row w p xs) (hx : xs.length = len) (hlc : len ≤ cap) (hcm : cap ≤ maxLen) (hl : len ≤ 100000) :
    Calls Try.prog 10 #[.slice p len cap] w (EncP xs w) := by
  have HCM := Lib.hid hcm
  unfold maxLen at hcm
  have HX := Lib.hid hx
  have HR := Lib.hid hr
  clear hx hr
  go_enter Try.func10, Try.ntmps10
  go_wp2_with fail
  go_loopw [0, 3] (fun v u wr => ∃ (a : Nat) (q : Option Addr) (out : List UInt8) (q2 : Option Addr) (c2 : Nat), a ≤ len ∧ out.length ≤ 2 * a ∧ v = .slice q (len - a) (cap - a) ∧ u = .slice q2 out.length c2 ∧
    Hid (Row w q (xs.drop a)) ∧ Hid (wr.ownsRow w.heap.size 5 1 (.slice q2 out.length c2) out.length (cellsOf out)) ∧ Hid (Below w.heap.size w wr) ∧ Hid (Pk out (xs.take a)) ∧ Hid (Slim out.length a (xs.drop a))) (fun v _ _ => sliceLen v)
  case atStart => exact ⟨0, p, [], none, 0, Nat.zero_le _, by simp, rfl, rfl, HR, Lib.hid ⟨rfl, .inl ⟨rfl, rfl⟩⟩, Lib.hid (Below.refl _ _), Lib.hid Pk.nil, Lib.hid (Slim.start _)⟩
  case round =>
    obtain ⟨a, q, out, q2, c2, hal, hol, rfl, rfl, HQ, HO, HB, HP, HS⟩ := hrel
    by_cases hlt : a < len
    · have HLD : Hid ((xs.drop a).length = len - a) := Lib.hid (by rw [List.length_drop, HX.out])
      have HRw := Lib.hid (HQ.out.below HB.out)
      obtain ⟨b, off, hq, hbl, hcs⟩ := HRw.out (by rw [HLD.out]; omega)
      subst hq
      have hx0 : 0 < (xs.drop a).length := by rw [HLD.out]; omega
      have c0 := hcs 0 hx0
      have hpos : (0 : Int) < ((len - a : Nat) : Int) := by omega
      have hpos' : 0 < len - a := by omega
      clear hcs
      go_wp2_with fail
      refine (equals_any _ _ _ (xs.drop a) _ (by exact HRw.out) HLD.out (by have := HCM.out; omega) hpos').mono ?_
      rintro e w1 ⟨n, rfl, hE, k1, rfl⟩
      have hn1 : 1 ≤ n := hE.1
      have hn2 : n ≤ 128 := by have := hE.2.1; omega
      have hn3 : n ≤ len - a := by have := hE.2.1; rw [HLD.out] at this; omega
      have HE := Lib.hid hE
      have HO1 := Lib.hid (own_below HO.out ((show Drawn wr (wr.drewN k1) from ⟨k1, rfl⟩).below _))
      have HB1 := Lib.hid (HB.out.trans ((show Drawn wr (wr.drewN k1) from ⟨k1, rfl⟩).below _))
      have c1 : (wr.drewN k1).cell? ⟨b, off, none⟩ = some (.int .u8 (((xs.drop a)[0]).toNat : Int)) := c0
      clear hE HO HB c0
      by_cases hn : 1 < n
      · have hgt : decide ((1 : Int) < (n : Int)) = true := by simp; omega
        have HPC : Hid (∀ c : UInt8, c.toNat = 257 - n → Pk (out ++ [c, (xs.drop a)[0]]) (xs.take (a + n))) := Lib.hid (fun c hc => by
          rw [take_more, HE.out.take hx0]
          exact HP.out.join (pc_run c _ n (by omega) hn2 hc).pk)
        have HSL := Lib.hid (HS.out.run HE.out (by omega))
        obtain ⟨cc, hcc⟩ : ∃ cc : UInt8, cc.toNat = 257 - n := ⟨UInt8.ofNat (257 - n), by simp; omega⟩
        have HPK := Lib.hid (HPC.out cc hcc)
        have hc257 : (257 : Int) - (n : Int) = (cc.toNat : Int) := by omega
        have hcl := cc.toNat_lt
        generalize (xs.drop a)[0] = x at c1 HPK
        have hxl := x.toNat_lt
        have hsl := fun W => tail_run W (some ⟨b, off, none⟩) (len - a) (cap - a) n hn3
        have HNR := Lib.hid (row_new (wr.drewN k1) [cc, x] 5 (0, 0))
        have HO2 := Lib.hid (own_below HO1.out ((Below.refl _ (wr.drewN k1)).alloc (Nat.le_refl _) (.cells (cellsOf [cc, x]).toArray 5)))
        have HBA := Lib.hid (HB1.out.trans ((Below.refl _ (wr.drewN k1)).alloc HB1.out.size (.cells (cellsOf [cc, x]).toArray 5)))
        have HBZ := Lib.hid HBA.out.size
        have HTR := Lib.hid (tail_row (cap - a) n HQ.out (by rw [HLD.out]; omega))
        rw [List.drop_drop] at HTR HSL
        clear HPC HE HP HS hn1 HO1 HQ hcc
        go_wp2_with (at_builtin; refine wpList_append_bytes rfl _ _ rfl w.heap.size _ out.length out rfl HO2.out (some ⟨wr.heap.size, 0, none⟩) 2 2 [cc, x] rfl HNR.out rfl (fun h => by cases h) (by omega) HBZ.out ?_)
        intro v3 w3 hown3 hgrow3 _
        obtain ⟨q3, c3, rfl, _, _, _, _⟩ := own_shape hown3 (by simp)
        have HB3 := Lib.hid (HBA.out.trans (grown_below HO2.out hgrow3 HBZ.out))
        have HO3 := Lib.hid hown3
        clear hown3 hgrow3 HBA HO2 HNR HB1 HRw HBZ
        go_wp2_with fail
        go_roundw
        case rel => exact ⟨a + n, _, out ++ [cc, x], q3, c3, by omega, by simp; omega, by rw [Nat.sub_sub, Nat.sub_sub], by simp, HTR, by simpa using HO3, HB3, HPK, by simpa using HSL⟩
        case measure => simp [sliceLen]; omega
      · have hn1' : n = 1 := by omega
        subst hn1'
        have hgt : decide ((1 : Int) < ((1 : Nat) : Int)) = false := by simp
        clear c1 hn1 hn2 hn3 hn
        have HRw2 := Lib.hid (HRw.out.below ((show Drawn wr (wr.drewN k1) from ⟨k1, rfl⟩).below _))
        go_wp2_with fail
        refine (literals_any _ _ _ (xs.drop a) _ (by exact HRw2.out) HLD.out (by omega) (by have := HCM.out; omega) hpos').mono ?_
        rintro e w2 ⟨n, rfl, hL, hD2⟩
        have hn1 : 1 ≤ n := hL.1
        have hn2 : n ≤ 128 := by have := hL.2.1; omega
        have hn3 : n ≤ len - a := by have := hL.2.1; rw [HLD.out] at this; omega
        have HSL := Lib.hid (HS.out.lit HE.out hL)
        obtain ⟨cc, hcc⟩ : ∃ cc : UInt8, cc.toNat = n - 1 := ⟨UInt8.ofNat (n - 1), by simp; omega⟩
        have HLT : Hid (((xs.drop a).take n).length = n) := Lib.hid (by rw [List.length_take, HLD.out]; omega)
        have HPK : Hid (Pk (out ++ cc :: (xs.drop a).take n) (xs.take (a + n))) := Lib.hid (by
          rw [take_more]
          exact HP.out.join (pc_lit cc _ (by rw [HLT.out]; exact hn2) (by rw [HLT.out]; omega)).pk)
        have hcz : (n : Int) - 1 = (cc.toNat : Int) := by omega
        have hcl := cc.toNat_lt
        have hsl := fun W => tail_run W (some ⟨b, off, none⟩) (len - a) (cap - a) n hn3
        have HO2 := Lib.hid (own_below HO1.out (hD2.below _))
        have HB2 := Lib.hid (HB1.out.trans (hD2.below _))
        have HTR := Lib.hid (tail_row (cap - a) n HQ.out (by rw [HLD.out]; omega))
        rw [List.drop_drop] at HTR HSL
        have HNR := Lib.hid (row_new w2 [cc] 5 (0, 0))
        have hbA : Below w2.heap.size w2 (w2.alloc (.cells (cellsOf [cc]).toArray 5)) := (Below.refl _ w2).alloc (Nat.le_refl _) _
        have HOA := Lib.hid (own_below HO2.out hbA)
        have HBA := Lib.hid (HB2.out.trans (hbA.mono HB2.out.size))
        have HBZ := Lib.hid HBA.out.size
        have HRA := Lib.hid (row_take HQ.out n)
        clear HE HP HS HO1 HB1 HO2 HQ hcc hD2 hbA HRw HRw2 hL hbl
        go_wp2_with (at_builtin; refine wpList_append_bytes rfl _ _ rfl w.heap.size _ out.length out rfl HOA.out (some ⟨w2.heap.size, 0, none⟩) 1 1 [cc] rfl HNR.out rfl (fun h => by cases h) (by omega) HBZ.out ?_)
        intro v3 w3 hown3 hgrow3 _
        obtain ⟨q3, c3, rfl, _, _, _, _⟩ := own_shape hown3 (by simp)
        have hG3 := grown_below HOA.out hgrow3 HBZ.out
        have HB3 := Lib.hid (HBA.out.trans hG3)
        have HO3 := Lib.hid hown3
        have HRT : Hid (Row w3 (some ⟨b, off, none⟩) ((xs.drop a).take n)) := Lib.hid (HRA.out.below HB3.out)
        have HZ3 := Lib.hid HB3.out.size
        clear hown3 hgrow3 HBA HOA HNR HBZ hG3
        go_wp2_with (at_builtin; refine wpList_append_bytes rfl _ _ rfl w.heap.size _ (out.length + 1) (out ++ [cc]) rfl HO3.out (some ⟨b, off, none⟩) n (cap - a) ((xs.drop a).take n) rfl HRT.out HLT.out (fun h => by cases h) (by omega) HZ3.out ?_)
        intro v4 w4 hown4 hgrow4 _
        obtain ⟨q4, c4, rfl, _, _, _, _⟩ := own_shape hown4 (by simp [HLT.out]; omega)
        have HB4 := Lib.hid (HB3.out.trans (grown_below HO3.out hgrow4 HZ3.out))
        have HO4 := Lib.hid hown4
        clear hown4 hgrow4 HO3 HB3 HZ3 HRT HRA
        have hlo : (out ++ cc :: (xs.drop a).take n).length = out.length + 1 + n := by
          rw [List.length_append, List.length_cons, HLT.out]; omega
        have HLO := Lib.hid hlo
        clear hlo
        go_wp2_with fail
        go_roundw
        case rel =>
          refine ⟨a + n, _, out ++ cc :: (xs.drop a).take n, q4, c4, by omega, by rw [HLO.out]; omega, by rw [Nat.sub_sub, Nat.sub_sub], by rw [HLO.out], HTR, ?_, HB4, HPK, ?_⟩
          · have := HO4.out
            rw [HLO.out]
            exact Lib.hid this
          · have := HSL.out
            rw [HLO.out]
            rw [show out.length + 1 + n = out.length + (n + 1) by omega]
            exact Lib.hid this
        case measure => simp [sliceLen]; omega
    · have hae : a = len := by omega
      subst hae
      have hpos : ¬ (0 : Int) < ((a - a : Nat) : Int) := by omega
      have HPF : Hid (Pk out xs) := Lib.hid (by
        have := HP.out
        rwa [List.take_of_length_le (by rw [HX.out]; exact Nat.le_refl _)] at this)
      have HSF : Hid (out.length ≤ xs.length + (xs.length + 127) / 128) := Lib.hid (by
        have := HS.out
        rw [List.drop_eq_nil_of_le (by rw [HX.out]; exact Nat.le_refl _)] at this
        rw [HX.out]
        exact this.end_)
      clear HP HS HQ
      go_wp2_with fail
      go_ret
      exact ⟨_, out, rfl, HO.out, HPF.out, HSF.out, HB.out⟩
end Go.Proofs.Ytcgoejijeeeanaa.Pb
