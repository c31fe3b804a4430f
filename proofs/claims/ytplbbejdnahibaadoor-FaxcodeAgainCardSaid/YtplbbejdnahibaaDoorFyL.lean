
/- The walk of FaxcodeAgain. -/
import Derived.Test.YtplbbejdnahibaaDoorFyK
namespace Go.Proofs.YtplbbejdnahibaaDoor.Fx
open Go.RowKit Go.Proofs.YtplbbejdnahibaaDoor.Oct Go.Proofs.YtplbbejdnahibaaDoor.Bit Go.Proofs.YtplbbejdnahibaaDoor.Hf Go.Proofs.YtplbbejdnahibaaDoor.Inf
set_option linter.unusedVariables false
set_option linter.unusedSimpArgs false
set_option maxRecDepth 100000

/-- a slice of numbers of sixteen bits that came in -/
def halfs (ns : List Nat) : List Value := ns.map fun n : Nat => .int .u16 (n : Int)
theorem halfs_length (ns : List Nat) : (halfs ns).length = ns.length := by simp [halfs]
def IsHalf (w : World) (a : Option Addr) (len cap : Nat) : Prop := ∃ ns : List Nat, ns.length = len ∧ VRow w w.heap.size a (halfs ns) ∧ ∀ n ∈ ns, n ≤ 65535
section
variable {H : Type} {enc : TypeId × Value → H} {w : World} {spare : Nat → Bool} {held : Bool}
theorem open_half {fuel : Nat} {a : Option Addr} {len cap : Nat} {x : DataW H × List MemPlace} (h : DataW.trod enc Tryd.prog w 0 spare held fuel 60 [.slice a len cap] = some x) : IsHalf w a len cap := by
  rcases ChangeShapes.open_ints Tryd.underlying60 Tryd.underlying62 (by kernel_rfl) h with ⟨hcs, _⟩ | ⟨ad, l, c, zs, hcs, _, hl, hm, hz, _, hcell, hwz⟩
  · simp at hcs
    obtain ⟨rfl, rfl, rfl⟩ := hcs
    exact ⟨[], rfl, fun h => absurd h (by simp [halfs]), fun n hn => absurd hn List.not_mem_nil⟩
  · simp at hcs
    obtain ⟨rfl, rfl, rfl⟩ := hcs
    have hzl : len ≤ zs.length := by rw [hz]; split <;> omega
    have hrange : ∀ z ∈ zs, 0 ≤ z ∧ z ≤ 65535 := fun z hz' => by
      have := hwz z hz'
      simp [Lit.wf, IntKind.min, IntKind.max, IntKind.bits, IntKind.signed] at this
      omega
    refine ⟨(zs.take len).map Int.toNat, by rw [List.length_map, List.length_take]; omega, fun hp => ?_, fun n hn => ?_⟩
    · unfold halfs at hp
      rw [List.length_map, List.length_map, List.length_take] at hp
      obtain ⟨b, off, spot⟩ := ad
      have h0 := hcell 0 (by omega)
      have hs : spot = none := by simpa [Addr.add] using World.cell?_spot h0
      subst hs
      refine ⟨b, off, rfl, lt_of_cell h0, fun i hi => ?_⟩
      unfold halfs at hi
      rw [List.length_map, List.length_map, List.length_take] at hi
      have h1 := hcell i (by omega)
      rw [add_plain] at h1
      rw [h1]
      have hg : zs.getD i 0 = zs[i]'(by omega) := by simp [List.getD, List.getElem?_eq_getElem (show i < zs.length by omega)]
      have hr := hrange _ (List.getElem_mem (show i < zs.length by omega))
      rw [hg]
      simp only [halfs, List.getElem_map, List.getElem_take]
      congr 2
      omega
    · obtain ⟨z, hz', rfl⟩ := List.mem_map.1 hn
      have := hrange z (List.mem_of_mem_take hz')
      omega
end
/-- the colours that came in, as a function: white where there is none -/
theorem boo_fun {w : World} {a : Option Addr} {len cap : Nat} (h : IsBoo w a len cap) : ∃ cf : Nat → Bool, (∀ i, len ≤ i → cf i = false) ∧ ∀ i, i < len → ∃ b off, a = some ⟨b, off, none⟩ ∧ b < w.heap.size ∧ w.cell? ⟨b, off + i, none⟩ = some (.bool (cf i)) := by
  by_cases hp : 0 < len
  · obtain ⟨b, off, ha, hb, hc⟩ := h.2.2 hp
    refine ⟨fun i => if hi : i < len then Classical.choose (hc i hi) else false, fun i hi => dif_neg (by omega), fun i hi => ⟨b, off, ha, hb, ?_⟩⟩
    show w.cell? ⟨b, off + i, none⟩ = some (Value.bool (if hi : i < len then Classical.choose (hc i hi) else false))
    rw [dif_pos hi]
    exact Classical.choose_spec (hc i hi)
  · exact ⟨fun _ => false, fun _ _ => rfl, fun i hi => by omega⟩
/-- the colour of a place, by the closure -/
theorem black_any (i : Nat) (bx : Nat) (p : Option Addr) (len cap : Nat) (cf : Nat → Bool) (w : World) (hi : i ≤ 100) (hl : len ≤ maxLen) (hbx : w.cell? ⟨bx, 0, none⟩ = some (.slice p len cap)) (hz : ∀ i, len ≤ i → cf i = false) (hc : ∀ i, i < len → ∃ b off, p = some ⟨b, off, none⟩ ∧ w.cell? ⟨b, off + i, none⟩ = some (.bool (cf i))) :
    Calls Tryd.prog 29 #[.int .i64 (i : Int), .pointer (some ⟨bx, 0, none⟩)] w fun e w' => e = .returned (.bool (cf i)) ∧ w = w' := by
  unfold maxLen at hl
  by_cases h : i < len
  · obtain ⟨b, off, rfl, hcl⟩ := hc i h
    have hd : decide ((i : Int) < (len : Int)) = true := by simp; omega
    have i1 : (0 : Int) ≤ (i : Int) := by omega
    have i2 : (i : Int) < (len : Int) := by omega
    generalize cf i = x at *
    clear hz hc h
    go_enter Tryd.func29, Tryd.ntmps29
    go_wp2_with fail
    go_ret
    exact ⟨rfl, rfl⟩
  · have hd : decide ((i : Int) < (len : Int)) = false := by simp; omega
    have hx := hz i (by omega)
    have hn : ¬ ((i : Int) < (len : Int)) := by omega
    rw [hx]
    clear hz hc h hx
    go_enter Tryd.func29, Tryd.ntmps29
    go_wp2_with fail
    go_ret
    exact ⟨rfl, rfl⟩
/-- what is told of the first so many -/
def numK (ns : List Nat) (i : Nat) : Nat := ns.getD i 0 % 32769
def toldK (ns : List Nat) (cf : Nat → Bool) (k : Nat) : List Bool := (List.range k).flatMap fun i => tellF (cf i) (numK ns i)
theorem toldK_succ (ns : List Nat) (cf : Nat → Bool) (k : Nat) : toldK ns cf (k + 1) = toldK ns cf k ++ tellF (cf k) (numK ns k) := by simp [toldK, List.range_succ]
theorem numK_le (ns : List Nat) (i : Nat) : numK ns i ≤ 32768 := by unfold numK; omega
theorem toldK_len (ns : List Nat) (cf : Nat → Bool) : ∀ k, (toldK ns cf k).length ≤ 200 * k
  | 0 => by simp [toldK]
  | k + 1 => by
    rw [toldK_succ, List.length_append]
    have := toldK_len ns cf k
    have := tell_len (cf k) (numK_le ns k)
    omega
theorem toldK_more (ns : List Nat) (cf : Nat → Bool) (k : Nat) : ∀ m, ∃ r, toldK ns cf (k + m) = toldK ns cf k ++ r
  | 0 => ⟨[], by rw [List.append_nil]; rfl⟩
  | m + 1 => by
    obtain ⟨r, hr⟩ := toldK_more ns cf k m
    exact ⟨r ++ tellF (cf (k + m)) (numK ns (k + m)), by rw [show k + (m + 1) = (k + m) + 1 by omega, toldK_succ, hr, List.append_assoc]⟩
/-- what is told is read, one behind the other -/
theorem toldK_read (ns : List Nat) (cf : Nat → Bool) (low : Bool) {k n : Nat} (h : k < n) : lenZ (cf k) (bitsOf low (packB low (toldK ns cf n))) 32768 (toldK ns cf k).length 0 = ((toldK ns cf (k + 1)).length, .ok (numK ns k)) := by
  obtain ⟨r, hr⟩ := toldK_more ns cf (k + 1) (n - (k + 1))
  rw [show k + 1 + (n - (k + 1)) = n by omega] at hr
  have hd : (bitsOf low (packB low (toldK ns cf n))).drop (toldK ns cf k).length = tellF (cf k) (numK ns k) ++ (r ++ zs (8 * (((toldK ns cf n).length + 7) / 8) - (toldK ns cf n).length)) := by
    rw [bitsOf_packB]
    generalize zs (8 * (((toldK ns cf n).length + 7) / 8) - (toldK ns cf n).length) = z
    rw [hr, toldK_succ, List.append_assoc, List.append_assoc, List.drop_left' rfl]
  have hl : (toldK ns cf k).length ≤ (bitsOf low (packB low (toldK ns cf n))).length := by
    rw [bitsOf_packB, hr, toldK_succ, List.length_append, List.length_append, List.length_append]
    omega
  rw [show (32768 : Int) = ((32768 : Nat) : Int) from rfl, lenZ_nat, read_tell (cf k) hd hl (numK_le ns k), toldK_succ, List.length_append]
/-- a reader beside books and a writer -/
structure RW (D : Nat) (W0 : World) (B C c gw : Nat) (v : Value) (l : List Bool) (low : Bool) (gr : Nat) (q : Option Addr) (cap : Nat) (xs : List UInt8) (a : Nat) (w : World) : Prop where
  cw : CW D W0 B C c gw v l low w
  rd : Rd w gr q cap xs a low
  og : C ≤ gr
  om : ∀ k, Mine gw v k → k ≠ gr
  od : D ≤ gr
theorem RW.read {D : Nat} {W0 w w' : World} {B C c gw : Nat} {v : Value} {l : List Bool} {low : Bool} {gr : Nat} {q : Option Addr} {cap : Nat} {xs : List UInt8} {a a' : Nat} (h : RW D W0 B C c gw v l low gr q cap xs a w) (ho : Only (· = gr) w w') (hr : Rd w' gr q cap xs a' low) : RW D W0 B C c gw v l low gr q cap xs a' w' :=
  ⟨⟨h.cw.cd.only ho fun k e => .inr (by have := h.og; omega), h.cw.ws.only ho (fun e => h.om gw (.inl rfl) e) (fun k hk e => h.om k (.inr hk) e), h.cw.out, h.cw.mine, h.cw.bel.trans (ho.below h.cw.dz fun k hk e => by have := h.od; omega), Nat.le_trans h.cw.dz ho.2.2.2.1⟩, hr, h.og, h.om, h.od⟩
set_option maxHeartbeats 8000000 in
theorem again_walk (p : Option Addr) (len cap : Nat) (p2 : Option Addr) (len2 cap2 : Nat) (w : World) (hT : Tab w) (hh : IsHalf w p len cap) (hbo : IsBoo w p2 len2 cap2) :
    Calls Tryd.prog 6 #[.slice p len cap, .slice p2 len2 cap2] w fun e w' => e = .returned (.bool true) ∧ Below w.heap.size w w' := by
  obtain ⟨ns, hnl, hnv, hns⟩ := hh
  obtain ⟨cf, hcz, hcf⟩ := boo_fun hbo
  have hl2 := Nat.le_trans hbo.1 hbo.2.1
  have hba : Below w.heap.size w (w.alloc (.cells #[.slice p2 len2 cap2] 49)) := (Below.refl _ w).alloc (Nat.le_refl _) _
  have hbx : (w.alloc (.cells #[.slice p2 len2 cap2] 49)).cell? ⟨w.heap.size, 0, none⟩ = some (.slice p2 len2 cap2) := by simp
  have hzb : (w.alloc (.cells #[.slice p2 len2 cap2] 49)).heap.size = w.heap.size + 1 := by simp
  obtain ⟨w0, hw0⟩ : ∃ w0, w0 = w.alloc (.cells #[.slice p2 len2 cap2] 49) := ⟨_, rfl⟩
  rw [← hw0] at hba hbx hzb
  have HW0 := Lib.hid hw0
  have HT := Lib.hid (hT.below hba hT.lt)
  have HBA := Lib.hid hba
  have HZB := Lib.hid hzb
  have HNL := Lib.hid hnl
  have HNV := Lib.hid hnv
  have HNS := Lib.hid hns
  have HBL : Hid (∀ (i : Nat) (W : World), i ≤ 100 → Below w0.heap.size w0 W → Calls Tryd.prog 29 #[.int .i64 (i : Int), .pointer (some ⟨w.heap.size, 0, none⟩)] W fun e w' => e = .returned (.bool (cf i)) ∧ W = w') := Lib.hid fun i W hi hb =>
    black_any i w.heap.size p2 len2 cap2 cf W hi hl2 ((hb.cell (p := ⟨w.heap.size, 0, none⟩) (by show w.heap.size < w0.heap.size; omega)).trans hbx) hcz fun j hj => by
      obtain ⟨b, off, h1, h2, h3⟩ := hcf j hj
      exact ⟨b, off, h1, (hb.cell (p := ⟨b, off + j, none⟩) (by show b < w0.heap.size; omega)).trans ((hba.cell (p := ⟨b, off + j, none⟩) h2).trans h3)⟩
  clear hT hba hbx hzb hnl hnv hns hcz hcf hl2 hbo hw0
  by_cases hbig : 60 < len
  · have hd : decide (60 < (len : Int)) = true := by simp; omega
    go_enter Tryd.func6, Tryd.ntmps6
    go_wp2_with fail
    rw [← HW0.out]
    refine (lives_any w0 HT.out).mono ?_
    rintro e w1 ⟨rfl, hb1⟩
    have HB1 := Lib.hid hb1
    have HT1 := Lib.hid (HT.out.below hb1 HT.out.lt)
    clear hb1
    go_wp2_with fail
    refine (lives_any w1 HT1.out).mono ?_
    rintro e w2 ⟨rfl, hb2⟩
    have HB2 := Lib.hid (HBA.out.trans ((HB1.out.trans (hb2.mono HB1.out.size)).mono HBA.out.size))
    clear hb2
    go_wp2_with fail
    go_ret
    exact ⟨rfl, HB2.out⟩
  have hd : decide (60 < (len : Int)) = false := by simp; omega
  have hl1 : len ≤ 60 := by omega
  clear hbig
  go_enter Tryd.func6, Tryd.ntmps6
  go_wp2_with fail
  rw [← HW0.out]
  refine (lives_any w0 HT.out).mono ?_
  rintro e w1 ⟨rfl, hb1⟩
  have HB1 := Lib.hid hb1
  have HT1 := Lib.hid (HT.out.below hb1 HT.out.lt)
  have HBW1 := Lib.hid (HBA.out.trans (hb1.mono HBA.out.size))
  clear hb1
  go_wp2_with fail
  refine (codes_any w1 HT1.out).mono ?_
  rintro e w2 ⟨hb2, c, rfl, hc⟩
  have HB2 := Lib.hid hb2
  have HC := Lib.hid hc
  clear hb2 hc
  go_wp2_with fail
  refine (newWriter_any true w2).mono ?_
  rintro e w3 ⟨hb3, rfl, hw3⟩
  have HCW := Lib.hid (CW.second HC.out HB2.out hw3 hb3)
  generalize hz1 : w1.heap.size = D at *
  generalize hz2 : w2.heap.size = C at *
  have HZ1 := Lib.hid hz1
  have HZ12 := Lib.hid HB2.out.size
  have HZ2 := Lib.hid hz2
  have HBX := Lib.hid (fun (wr : World) (hb : Below D w1 wr) => show Below w0.heap.size w0 wr from HB1.out.trans (hb.mono (by have := HB1.out.size; have := HZ1.out; omega)))
  have HFIN := Lib.hid (fun (wr : World) (hb : Below D w1 wr) => show Below w.heap.size w wr from HBW1.out.trans (hb.mono (by have := HBW1.out.size; have := HZ1.out; omega)))
  clear hb3 hw3 hz1 hz2
  go_wp2_with fail
  go_loopw [8, 9, 33] (fun _ _ i wr => ∃ (k : Nat) (v : Value), k ≤ len ∧ i = .int .i64 (k : Int) ∧ Hid (CW D w1 D C c C v (toldK ns cf k) true wr)) (fun _ _ i _ => len - (intOf i).toNat)
  case atStart => exact ⟨0, _, by omega, rfl, HCW⟩
  case round =>
    obtain ⟨k, v, hk, rfl, HK⟩ := hrel
    by_cases hlt : k < len
    · have hdk : decide ((k : Int) < (len : Int)) = true := by simp; omega
      have hkn : k < ns.length := by rw [HNL.out]; exact hlt
      obtain ⟨bb, off, rfl, hbb, hcell⟩ := HNV.out (by rw [halfs_length]; omega)
      have hcx := hcell k (by rw [halfs_length]; exact hkn)
      have hcv : (halfs ns)[k]'(by rw [halfs_length]; exact hkn) = .int .u16 ((ns[k] : Nat) : Int) := by simp [halfs]
      rw [hcv] at hcx
      have hc := ((HFIN.out wr HK.out.bel).cell (p := ⟨bb, off + k, none⟩) hbb).trans hcx
      have hnb := HNS.out ns[k] (List.getElem_mem hkn)
      have hnum : ns[k] % 32769 = numK ns k := by unfold numK; rw [List.getD_eq_getElem?_getD, List.getElem?_eq_getElem hkn]; rfl
      have HBK := Lib.hid (HBL.out k wr (by omega) (HBX.out wr HK.out.bel))
      have htl := toldK_len ns cf k
      have HWR := Lib.hid (cwrite_any wr D C c C v (toldK ns cf k) true (numK ns k) (cf k) HK.out.cd HK.out.ws HK.out.out (numK_le ns k) (by omega))
      have e1 : ((ns[k] : Nat) : Int) % 32769 = ((numK ns k : Nat) : Int) := by rw [← hnum]; omega
      have HTS := Lib.hid (toldK_succ ns cf k)
      have i1 : (0 : Int) ≤ (k : Int) := by omega
      have i2 : (k : Int) < (len : Int) := by omega
      generalize numK ns k = m at *
      generalize ns[k] = n at *
      clear hcell hcx hcv hnum htl hkn hbb
      go_wp2_with fail
      refine HBK.out.mono ?_
      rintro e w4 ⟨rfl, rfl⟩
      go_wp2_with fail
      refine HWR.out.mono ?_
      rintro e w5 ⟨rfl, hw5⟩
      rw [← HTS.out] at hw5
      obtain ⟨v5, h5⟩ := HK.out.wrote (m := tellF (cf k) m) (by rw [← HTS.out]; exact hw5)
      rw [← HTS.out] at h5
      have H5 := Lib.hid h5
      clear hw5 h5
      go_wp2_with fail
      go_roundw
      case rel => exact ⟨k + 1, v5, by omega, by go_num, H5⟩
      case measure => simp [intOf]; omega
    · have hke : k = len := by omega
      subst hke
      have hdk : decide ((k : Int) < (k : Int)) = false := by simp
      have htl := toldK_len ns cf k
      obtain ⟨wA, hwA⟩ : ∃ wA, wA = wr := ⟨_, rfl⟩
      rw [← hwA] at HK ⊢
      clear hlt hwA
      go_wp2_with fail
      refine (bytes_any wA C v (toldK ns cf k) true HK.out.ws (by omega)).mono ?_
      rintro e w5 ⟨hb5, q5, c5, rfl, hr5, hc5, hm5, hn5, ha5⟩
      have H5 := Lib.hid (HK.out.more hb5)
      have HPL := Lib.hid (packB_length true (toldK ns cf k))
      have HNR := Lib.hid (newReader_any q5 _ c5 _ true w5 hr5 rfl hn5 (by rw [HPL.out]; omega))
      have HZ5 := Lib.hid hb5.size
      clear hb5 hr5 hc5 hm5 hn5 ha5
      go_wp2_with fail
      refine HNR.out.mono ?_
      rintro e w6 ⟨hb6, gr, q6, c6, rfl, hg6, hr6, _⟩
      have H6 := Lib.hid (H5.out.more hb6)
      have HRW := Lib.hid (show RW D w1 D C c C v (toldK ns cf k) true gr q6 c6 (packB true (toldK ns cf k)) (toldK ns cf 0).length w6 from
        ⟨H6.out, hr6, by have := H5.out.cd.1; omega, fun j hj e => by
          have hz5 := HZ5.out
          rcases hj with h | h
          · have := HK.out.ws.lt
            omega
          · have := (World.ownsRow.lt HK.out.ws.2.1 j h).2
            omega, by have := H5.out.dz; omega⟩)
      clear hb6 hr6 hg6 HNR H6
      go_wp2_with fail
      go_loopw [11, 12, 13, 14, 54] (fun _ _ _ _ i wr => ∃ t : Nat, t ≤ k ∧ i = .int .i64 (t : Int) ∧ Hid (RW D w1 D C c C v (toldK ns cf k) true gr q6 c6 (packB true (toldK ns cf k)) (toldK ns cf t).length wr)) (fun _ _ _ _ i _ => k - (intOf i).toNat)
      case atStart => exact ⟨0, by omega, rfl, HRW⟩
      case round =>
        obtain ⟨t, ht, rfl, HQ⟩ := hrel
        by_cases hlt : t < k
        · have hdk : decide ((t : Int) < (k : Int)) = true := by simp; omega
          have hkn : t < ns.length := by rw [HNL.out]; exact hlt
          obtain ⟨bb, off, rfl, hbb, hcell⟩ := HNV.out (by rw [halfs_length]; omega)
          have hcx := hcell t (by rw [halfs_length]; exact hkn)
          have hcv : (halfs ns)[t]'(by rw [halfs_length]; exact hkn) = .int .u16 ((ns[t] : Nat) : Int) := by simp [halfs]
          rw [hcv] at hcx
          have hc := ((HFIN.out wr HQ.out.cw.bel).cell (p := ⟨bb, off + t, none⟩) hbb).trans hcx
          have hnb := HNS.out ns[t] (List.getElem_mem hkn)
          have hnum : ns[t] % 32769 = numK ns t := by unfold numK; rw [List.getD_eq_getElem?_getD, List.getElem?_eq_getElem hkn]; rfl
          have HBK := Lib.hid (HBL.out t wr (by omega) (HBX.out wr HQ.out.cw.bel))
          have HRD := Lib.hid (cread_any wr D C c gr q6 c6 _ _ true 32768 (cf t) HQ.out.cw.cd (.inr HQ.out.og) HQ.out.rd (by omega) (by omega))
          rw [toldK_read ns cf true hlt] at HRD
          have e1 : ((ns[t] : Nat) : Int) % 32769 = ((numK ns t : Nat) : Int) := by rw [← hnum]; omega
          have i1 : (0 : Int) ≤ (t : Int) := by omega
          have i2 : (t : Int) < (k : Int) := by omega
          have hm := numK_le ns t
          generalize numK ns t = m at *
          generalize ns[t] = n at *
          clear hcell hcx hcv hnum hkn hbb
          go_wp2_with fail
          refine HBK.out.mono ?_
          rintro e w7 ⟨rfl, rfl⟩
          go_wp2_with fail
          refine HRD.out.mono ?_
          rintro e w8 ⟨rfl, hr8, ho8, hz8⟩
          have H8 := Lib.hid (HQ.out.read ho8 hr8)
          clear hr8 ho8 hz8
          simp only [valR, errR, Int.sub_zero]
          have hne : ((m : Int) != (m : Int)) = false := by simp
          go_wp2_with fail
          go_roundw
          case rel => exact ⟨t + 1, by omega, by go_num, H8⟩
          case measure => simp [intOf]; omega
        · have hke : t = k := by omega
          subst hke
          have hdk : decide ((t : Int) < (t : Int)) = false := by simp
          have HAT := Lib.hid (at_any gr q6 c6 _ _ true wr HQ.out.rd)
          have HLN := Lib.hid (len_any wr C v _ true HQ.out.cw.ws)
          generalize (toldK ns cf t).length = L at *
          have hee : ((L : Int) == (L : Int)) = true := by simp
          clear hlt
          go_wp2_with fail
          refine (cread_nil wr _ 9 false).mono ?_
          rintro e w7 ⟨rfl, rfl⟩
          go_wp2_with fail
          refine (creadm_nil wr _).mono ?_
          rintro e w7 ⟨rfl, rfl⟩
          go_wp2_with fail
          refine HAT.out.mono ?_
          rintro e w7 ⟨rfl, rfl⟩
          go_wp2_with fail
          refine HLN.out.mono ?_
          rintro e w7 ⟨rfl, rfl⟩
          go_wp2_with fail
          refine (cwrite_nil wr _ 1 false).mono ?_
          rintro e w7 ⟨rfl, rfl⟩
          go_wp2_with fail
          refine (cmode_nil wr _ _ ⟨_, rfl⟩).mono ?_
          rintro e w7 ⟨rfl, rfl⟩
          go_wp2_with fail
          go_ret
          exact ⟨rfl, HFIN.out wr HQ.out.cw.bel⟩
end Go.Proofs.YtplbbejdnahibaaDoor.Fx
