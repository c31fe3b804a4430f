
/- The contract of a decoder's repeat: bytes that were produced, produced again one by one. -/
import Derived.Test.YtmcjhkdcbblnnaaIgB
namespace Go.Proofs.Ytmcjhkdcbblnnaa.Inf
open Go.RowKit Go.Proofs.Ytmcjhkdcbblnnaa.Oct Go.Proofs.Ytmcjhkdcbblnnaa.Bit Go.Proofs.Ytmcjhkdcbblnnaa.Hf
set_option linter.unusedVariables false
set_option linter.unusedSimpArgs false
set_option maxRecDepth 100000

def RepP (w : World) (K : Kon) (a : Nat) (v : Value) (out : List UInt8) (F : Option Fix) (n d : Nat) (e : Ending) (w' : World) : Prop :=
  if out.length < d then e = .returned (.int .i64 3) ∧ Only (MineE K v) w w'
  else if K.most < out.length + n then e = .returned (.int .i64 8) ∧ Only (MineE K v) w w'
  else e = .returned (.int .i64 0) ∧ DeT w K v a (copyN out d n) F w'
theorem DeT.refl {w : World} {K : Kon} {a : Nat} {v : Value} {out : List UInt8} {F : Option Fix} (h : De w K a v out F) : DeT w K v a out F w := ⟨v, h, Only.refl _ _, fun _ hk => .inl hk⟩
set_option maxHeartbeats 4000000 in
theorem repeat_any (w : World) (K : Kon) (a : Nat) (v : Value) (out : List UInt8) (F : Option Fix) (n d : Nat) (h : De w K a v out F) (hn : n ≤ 100000) (hd1 : 1 ≤ d) (hd2 : d ≤ 100000) :
    Calls Try.prog 78 #[.pointer (some ⟨K.d, 0, none⟩), .int .i64 (n : Int), .int .i64 (d : Int)] w (RepP w K a v out F n d) := by
  obtain ⟨i0, hi, hz0, hz1, hz2⟩ := info_parts Try.infoByte
  obtain ⟨p, cap, hv, hc1, hc2, hnil, hrow⟩ := h.form
  have k1 := h.c1
  have k2 := h.c2
  rw [hv] at k1
  have hom := h.om
  have hsz := h.sz
  by_cases hfar : out.length < d
  · have HR : Hid (∀ e w', (e = .returned (.int .i64 3) ∧ w = w') → RepP w K a v out F n d e w') := Lib.hid (by
      rintro e w' ⟨rfl, rfl⟩
      unfold RepP
      rw [if_pos hfar]
      exact ⟨rfl, Only.refl _ _⟩)
    have hd0 : decide ((d : Int) > (out.length : Int)) = true := by simp; omega
    clear h hrow hnil
    go_enter Try.func78, Try.ntmps78
    go_wp2_with fail
    go_ret
    exact HR.out _ _ ⟨rfl, rfl⟩
  have hd0 : decide ((d : Int) > (out.length : Int)) = false := by simp; omega
  by_cases hfull : K.most < out.length + n
  · have HR : Hid (∀ e w', (e = .returned (.int .i64 8) ∧ Drawn w w') → RepP w K a v out F n d e w') := Lib.hid (by
      rintro e w' ⟨rfl, h2⟩
      unfold RepP
      rw [if_neg hfar, if_pos hfull]
      exact ⟨rfl, Only.drawn _ h2⟩)
    have hd1 : decide ((n : Int) > (K.most : Int) - (out.length : Int)) = true := by simp; omega
    clear h hrow hnil
    go_enter Try.func78, Try.ntmps78
    go_wp2_with fail
    go_quiet (fail)
    go_wp2_with fail
    go_ret
    exact HR.out _ _ ⟨rfl, ⟨_, rfl⟩⟩
  · have hd1 : decide ((n : Int) > (K.most : Int) - (out.length : Int)) = false := by simp; omega
    have HR : Hid (∀ e w', (e = .returned (.int .i64 0) ∧ DeT w K v a (copyN out d n) F w') → RepP w K a v out F n d e w') := Lib.hid (by
      rintro e w' ⟨rfl, h2⟩
      unfold RepP
      rw [if_neg hfar, if_neg hfull]
      exact ⟨rfl, h2⟩)
    have H := Lib.hid h
    clear h hrow hnil hv
    go_enter Try.func78, Try.ntmps78
    go_wp2_with fail
    go_quiet (fail)
    go_wp2_with fail
    go_loopw [27] (fun i wr => ∃ (j : Nat) (out2 : List UInt8), j ≤ n ∧ i = .int .i64 (j : Int) ∧ Hid (copyN out2 d (n - j) = copyN out d n) ∧ out2.length = out.length + j ∧ Hid (DeT w K v a out2 F wr)) (fun i wr => n - (intOf i).toNat)
    case atStart => exact ⟨0, out, by omega, rfl, Lib.hid rfl, rfl, Lib.hid (DeT.refl (H.out.drawn (w' := w.drewN nq) ⟨nq, rfl⟩) |>.more (Only.drawn _ ⟨nq, rfl⟩) (fun _ hk => .inl hk))⟩
    case round =>
      obtain ⟨j, out2, hj, rfl, HCP, hlen, HT⟩ := hrel
      obtain ⟨v2, hD2, ho2, hb2⟩ := HT.out
      by_cases hjn : j < n
      · have hlt : decide ((j : Int) < (n : Int)) = true := by simpa using hjn
        obtain ⟨p2, cap2, hv2, hc21, hc22, hnil2, hrow2⟩ := hD2.form
        obtain ⟨g2, off2, rfl, hg2, hcells2⟩ := hrow2 (by omega)
        have hoff2 : off2 = 0 := by
          rcases hD2.own.2 with ⟨e, _⟩ | ⟨g', c', cur, e, _⟩
          · rw [hv2] at e; cases e
          · rw [hv2] at e; injection e with e; injection e with e; injection e
        subst hoff2
        unfold maxLen at hc22
        obtain ⟨z, hz⟩ : ∃ z, out2.length - d = z := ⟨_, rfl⟩
        have hzl : z < out2.length := by omega
        obtain ⟨x, hx⟩ : ∃ x, out2[z] = x := ⟨_, rfl⟩
        have hzi : (out2.length : Int) - (d : Int) = (z : Int) := by omega
        obtain ⟨wd, hwd⟩ : ∃ wd, wd = (wr.alloc (.cells #[.int .u8 (x.toNat : Int)] 5)).drew := ⟨_, rfl⟩
        have hod : Only (fun _ => False) wr wd := by rw [hwd]; exact (Only.of_below ((Below.refl _ wr).alloc (Nat.le_refl _) _)).trans (Only.drawn _ ⟨1, rfl⟩)
        have hsz2 : wd.heap.size = wr.heap.size + 1 := by rw [hwd]; exact Array.size_push _
        have hD3 := hD2.keep hod
        have q1 : wr.drew.cell? ⟨K.d, 1, none⟩ = some (.slice (some ⟨g2, 0, none⟩) out2.length cap2) := by rw [← hv2]; exact hD2.c1
        have q2 : wr.drew.cell? ⟨g2, z, none⟩ = some (.int .u8 (x.toNat : Int)) := by
          have := hcells2 z hzl
          rw [hx, Nat.zero_add] at this
          exact this
        have q3 : (wr.alloc (.cells #[.int .u8 (x.toNat : Int)] 5)).drew.cell? ⟨K.d, 1, none⟩ = some (.slice (some ⟨g2, 0, none⟩) out2.length cap2) := by
          rw [← hwd, ← hv2]; exact hD3.c1
        have hnw : ∀ i u, (cellsOf [x])[i]? = some u → wd.cell? ((⟨wr.heap.size, 0, none⟩ : Addr).add i) = some u := by rw [hwd]; exact news8 wr x
        have hOne := hD2.one x (by omega) hod
        have HNEXT : Hid (copyN (out2 ++ [x]) d (n - (j + 1)) = copyN out d n) := Lib.hid (by
          rw [← HCP.out, show n - j = (n - (j + 1)) + 1 from by omega, copyN, hz]
          congr 3
          rw [List.getD_eq_getElem?_getD, List.getElem?_eq_getElem hzl, hx]
          rfl)
        have HOWN3 := Lib.hid hD3.own
        have HNW := Lib.hid hnw
        have HONE := Lib.hid hOne
        have HWD := Lib.hid hwd
        have HSZ := Lib.hid hsz2
        have HV2 := Lib.hid hv2
        have HO2 := Lib.hid ho2
        have HB2 := Lib.hid hb2
        have hxb : x.toNat < 256 := x.toNat_lt
        have hzn0 : (0 : Int) ≤ (z : Int) := by omega
        have hzn1 : (z : Int) < (out2.length : Int) := by omega
        have hwz : IntKind.i64.wrap (z : Int) = (z : Int) := IntWalk.i64_in _ (by omega)
        have hkm : out2.length + 1 ≤ 300000 := by omega
        have HL := Lib.hid hlen
        clear hlen hrow2 hcells2 hnil2 hg2 hnw hx hD2 hD3 ho2 hb2 hod hwd hsz2 hOne k1 k2 hfar hfull hd0 hd1 hz hv2 HT
        go_wp2_with fail
        go_region_law (rw [← HWD.out]; refine step_append_lies _ rfl _ _ 22 rfl 0 5 i0 (.int .u8 0) 1 1 Try.underlying22 hi hz0 hz1 hz2 rfl (by decide) (.slice (some ⟨g2, 0, none⟩) out2.length cap2) out2.length (cellsOf out2) (by simp [Act.eval, Act.put]) (by have := HOWN3.out; rwa [HV2.out] at this) ⟨wr.heap.size, 0, none⟩ 1 1 (cellsOf [x]) (by simp [Act.eval, Act.put]) rfl HNW.out cellsOf_one (by omega) (by unfold maxLen; omega) (by omega) (Nat.zero_le _) (wr.heap.size + 1) HSZ.out ?_; intro g1 cap1 w1 hown1 hgrow1 hat1 hlt1; have HON1 := Lib.hid (HONE.out g1 cap1 w1 hown1 (by rw [HV2.out]; exact hgrow1) (by rw [HV2.out, HSZ.out]; exact hat1)); have hfz1 := HON1.out.1.1; have hcl1 : w1.cell? ⟨K.d, 1, none⟩ = some (.slice (some ⟨g2, 0, none⟩) out2.length cap2) := by rw [← HV2.out]; exact HON1.out.1.2)
        all_goals
          clear hown1 hgrow1 hat1
          go_wp2_with fail
          go_roundw
          case rel => exact ⟨j + 1, out2 ++ [x], by omega, by first | rfl | (congr 1; omega) | (push_cast; rfl), HNEXT, by rw [List.length_append, HL.out]; simp; omega, Lib.hid (HON1.out.2.more HO2.out HB2.out)⟩
          case measure => simp [intOf]; omega
      · have hjn2 : j = n := by omega
        subst hjn2
        have HRES := Lib.hid (HR.out _ _ ⟨rfl, by have := HT.out; rwa [show out2 = copyN out d j from by rw [← HCP.out, Nat.sub_self]; rfl] at this⟩)
        clear hD2 ho2 hb2
        go_wp2_with fail
        go_ret
        exact HRES.out
end Go.Proofs.Ytmcjhkdcbblnnaa.Inf
