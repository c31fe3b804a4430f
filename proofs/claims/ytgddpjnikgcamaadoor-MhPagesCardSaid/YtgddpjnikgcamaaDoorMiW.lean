
/- The walk of MhPages. -/
import Derived.Test.YtgddpjnikgcamaaDoorMiV
namespace Go.Proofs.YtgddpjnikgcamaaDoor.Mh
open Go.RowKit Go.Proofs.YtgddpjnikgcamaaDoor.Oct Go.Proofs.YtgddpjnikgcamaaDoor.Bit
open Go.Proofs.YtgddpjnikgcamaaDoor.Fx (Tab TrueT)
open Go.Proofs.YtgddpjnikgcamaaDoor.Rn (changes zl zl_length Valid rchanges_new)
open Go.Proofs.YtgddpjnikgcamaaDoor.Lp (VRow ints ints_length)
set_option linter.unusedVariables false
set_option linter.unusedSimpArgs false
set_option maxRecDepth 100000

theorem restR_len2 : ∀ (l : List Bool) (b : Bool) (n : Nat), n + l.length ≤ 2000 → (restR b n l).length ≤ 26 * (l.length + 1)
  | [], b, n, h => by
    rw [restR_nil]
    simpa using tell_len2 b (n := n) (by simp at h; omega)
  | x :: l, b, n, h => by
    rw [List.length_cons] at h ⊢
    by_cases hx : x = b
    · subst hx
      rw [restR_same]
      have := restR_len2 l x (n + 1) (by omega)
      omega
    · have hb : (!b) = x := by cases b <;> cases x <;> simp_all
      subst hb
      rw [restR_turn, List.length_append]
      have h1 := restR_len2 l (!b) 1 (by omega)
      have h2 := tell_len2 b (n := n) (by omega)
      omega
theorem decB_len {L : List Bool} {wd : Nat} {Xs : List (List Bool)} (hL : ∃ m, L.length = 8 * m) : ∀ (j t : Nat) (acc : List (List Bool)), t ≤ L.length → (∀ X ∈ acc, X.length = wd) → decB L wd j t acc = .ok Xs → (∀ X ∈ Xs, X.length = wd) ∧ Xs.length = acc.length + j
  | 0, t, acc, ht, ha, h => by
    injection h with h
    subst h
    exact ⟨ha, rfl⟩
  | j + 1, t, acc, ht, ha, h => by
    obtain ⟨m, hm⟩ := hL
    have h8 : 8 * ((t + 7) / 8) ≤ L.length := by omega
    rw [decB] at h
    have hle := readRowA_le (L := L) (wd := wd) (L.length + 1) (8 * ((t + 7) / 8)) [] false (by omega) h8
    have hlen := fun X hX => readRowA_len (L := L) (n := wd) (X := X) (L.length + 1) (8 * ((t + 7) / 8)) [] false (by omega) h8 hX
    rcases hy : readRowA L wd (8 * ((t + 7) / 8)) [] false with ⟨t1, c | X⟩
    · rw [hy] at h; cases h
    · rw [hy] at h hle hlen
      simp only at h hle hlen
      have h9 := decB_len ⟨m, hm⟩ j t1 (acc ++ [X]) hle (fun Y hY => by
        rcases List.mem_append.1 hY with e | e
        · exact ha Y e
        · rw [List.mem_singleton.1 e]; exact hlen X rfl) h
      refine ⟨h9.1, ?_⟩
      rw [h9.2, List.length_append]
      simp
      omega
def decF (L : List Bool) (z n : Int) : List (List Bool) × Int := if wideM z = true ∧ 0 ≤ n then match decB L z.toNat n.toNat 0 [] with
  | .ok Xs => (Xs, 0)
  | .error e => ([], (e : Int))
  else ([], 1)
theorem decF_len {L : List Bool} {z n : Int} (hL : ∃ m, L.length = 8 * m) (hz : z ≤ 1000) (hn : n ≤ 1000) : (∀ X ∈ (decF L z n).1, X.length ≤ 1000) ∧ (decF L z n).1.length ≤ 1000 := by
  unfold decF
  split
  · rename_i h
    have h0 := of_decide_eq_true h.1
    rcases hy : decB L z.toNat n.toNat 0 [] with e | Xs
    · exact ⟨fun X h => (by cases h), Nat.zero_le _⟩
    · have h1 := decB_len hL n.toNat 0 [] (Nat.zero_le _) (fun X h => by cases h) hy
      refine ⟨fun X hX => ?_, ?_⟩
      · have := h1.1 X hX; omega
      · have h2 := h1.2
        simp only [List.length_nil] at h2
        show Xs.length ≤ 1000
        omega
  · exact ⟨fun X h => (by cases h), Nat.zero_le _⟩
theorem decode_gen (w : World) (hT : Tab w) (p : Option Addr) (len cap : Nat) (xs : List UInt8) (z n : Int) (hr : Row w p xs) (hx : xs.length = len) (hnil : p = none → cap = 0) (hl : len ≤ 1000000) (hn : n ≤ 1000) :
    Calls Tryd.prog 28 #[.slice p len cap, .int .i64 z, .int .i64 n] w fun e w' => Below w.heap.size w w' ∧ ∃ q c, e = .returned (.tuple #[.slice q (decF (bitsOf false xs) z n).1.length c, .int .i64 (decF (bitsOf false xs) z n).2]) ∧ Tbl w' w'.heap.size q ((decF (bitsOf false xs) z n).1.map changes) := by
  unfold decF
  by_cases h : wideM z = true ∧ 0 ≤ n
  · rw [if_pos h]
    have h0 := of_decide_eq_true h.1
    have hz : z = (z.toNat : Int) := by omega
    have hnn : n = (n.toNat : Int) := by omega
    have hd := decode_any w hT p len cap xs z.toNat n.toNat hr hx hnil hl (by omega) (by omega) (by omega)
    rw [← hz, ← hnn] at hd
    refine hd.mono ?_
    rintro e w' ⟨hb, hm⟩
    rcases hy : decB (bitsOf false xs) z.toNat n.toNat 0 [] with c | Xs
    · rw [hy] at hm
      exact ⟨hb, none, 0, hm, Tbl.nil _ _ _⟩
    · rw [hy] at hm
      obtain ⟨q, c, h1, h2⟩ := hm
      exact ⟨hb, q, c, h1, h2⟩
  · rw [if_neg h]
    refine (decode_bad w p len cap z n (by
      by_cases h1 : wideM z = true
      · right
        have : ¬ 0 ≤ n := fun h2 => h ⟨h1, h2⟩
        omega
      · left; simpa using h1)).mono ?_
    rintro e w' ⟨rfl, rfl⟩
    exact ⟨Below.refl _ _, none, 0, rfl, Tbl.nil _ _ _⟩
theorem rdecode_gen (w : World) (xs : List UInt8) (z n : Int) (hx : xs.length ≤ 1000) (hn : n ≤ 1000) :
    Calls Tryd.prog 29 #[.string (bs xs), .int .i64 z, .int .i64 n] w fun e w' => Below w.heap.size w w' ∧ ∃ q c, e = .returned (.tuple #[.slice q (decF (bitsOf false xs) z n).1.length c, .int .i64 (decF (bitsOf false xs) z n).2]) ∧ VRow w' w'.heap.size q (txt (decF (bitsOf false xs) z n).1) := by
  unfold decF
  by_cases h : wideM z = true ∧ 0 ≤ n
  · rw [if_pos h]
    have h0 := of_decide_eq_true h.1
    have hz : z = (z.toNat : Int) := by omega
    have hnn : n = (n.toNat : Int) := by omega
    have hd := rdecode_any w xs z.toNat n.toNat hx (by omega) (by omega) (by omega)
    rw [← hz, ← hnn] at hd
    refine hd.mono ?_
    rintro e w' ⟨hb, hm⟩
    rcases hy : decB (bitsOf false xs) z.toNat n.toNat 0 [] with c | Xs
    · rw [hy] at hm
      exact ⟨hb, none, 0, hm, fun h => absurd h (by simp [txt])⟩
    · rw [hy] at hm
      obtain ⟨q, c, h1, h2⟩ := hm
      exact ⟨hb, q, c, h1, h2⟩
  · rw [if_neg h]
    refine (rdecode_bad w _ z n (by
      by_cases h1 : wideM z = true
      · right
        have : ¬ 0 ≤ n := fun h2 => h ⟨h1, h2⟩
        omega
      · left; simpa using h1)).mono ?_
    rintro e w' ⟨rfl, rfl⟩
    exact ⟨Below.refl _ _, none, 0, rfl, fun h => absurd h (by simp [txt])⟩
set_option maxHeartbeats 16000000 in
theorem pages_walk (p : Option Addr) (len cap : Nat) (zs : List Int) (z n : Int) (p3 : Option Addr) (len3 cap3 : Nat) (w : World) (hT : Tab w) (hr0 : IsRow .u8 w p len cap zs) (hz0 : (Lit.int .i64 z).wf = true) (hn0 : (Lit.int .i64 n).wf = true) (hbs : IsBytess w p3 len3 cap3) :
    Calls Tryd.prog 5 #[.slice p len cap, .agg #[.int .i64 z, .int .i64 n], .slice p3 len3 cap3] w fun e w' => e = .returned (.bool true) ∧ Below w.heap.size w w' := by
  obtain ⟨xs, hx, hr, hlc, hcm, hnil⟩ := hr0.row
  obtain ⟨hlc3, hcm3, hrows⟩ := hbs
  have HT := Lib.hid hT
  have hbw : Below w.heap.size w (w.alloc (.cells #[.int .i64 z, .int .i64 n] 51)) := (Below.refl _ w).alloc (Nat.le_refl _) _
  have k0 : (w.alloc (.cells #[.int .i64 z, .int .i64 n] 51)).cell? ⟨w.heap.size, 0, none⟩ = some (.int .i64 z) := by simp
  have k1 : (w.alloc (.cells #[.int .i64 z, .int .i64 n] 51)).cell? ⟨w.heap.size, 1, none⟩ = some (.int .i64 n) := by simp
  have HBX := Lib.hid hbw
  unfold maxLen at hcm
  clear hr0 hz0 hn0 hT hbw hcm3
  by_cases hbad : 80 < len ∨ 40 < n ∨ 8 < len3 ∨ 300 < z
  · have hways : decide (80 < (len : Int)) = true ∨ (decide (80 < (len : Int)) = false ∧ (decide (40 < n) = true ∨ (decide (40 < n) = false ∧ (decide (8 < (len3 : Int)) = true ∨ (decide (8 < (len3 : Int)) = false ∧ decide (300 < z) = true))))) := by
      by_cases h1 : 80 < len
      · left; simp; omega
      · right
        refine ⟨by simp; omega, ?_⟩
        by_cases h2 : 40 < n
        · left; simpa using h2
        · right
          refine ⟨by simp; omega, ?_⟩
          by_cases h3 : 8 < len3
          · left; simp; omega
          · right; constructor <;> simp <;> omega
    clear hbad hx hr hrows hnil hlc hlc3
    rcases hways with q1 | ⟨q1, q2 | ⟨q2, q3 | ⟨q3, q4⟩⟩⟩ <;>
      (go_enter Tryd.func5, Tryd.ntmps5
       go_wp2_with fail
       go_quiet (fail)
       have HB0 := Lib.hid (HBX.out.trans ((show Drawn _ _ from ⟨nq, rfl⟩ : Drawn (w.alloc (.cells #[.int .i64 z, .int .i64 n] 51)) _).below w.heap.size))
       generalize (w.alloc (.cells #[.int .i64 z, .int .i64 n] 51)).drewN nq = w0 at *
       clear k0 k1 HBX
       have HT0 := Lib.hid (HT.out.below HB0.out HT.out.lt)
       go_wp2_with fail
       refine (lives_any w0 HT0.out).mono ?_
       rintro e w1 ⟨rfl, hb1⟩
       have HB1 := Lib.hid hb1
       have HT1 := Lib.hid (HT0.out.below hb1 HT0.out.lt)
       clear hb1
       go_wp2_with fail
       refine (lives_any w1 HT1.out).mono ?_
       rintro e w2 ⟨rfl, hb2⟩
       have HB2 := Lib.hid (HB0.out.trans ((HB1.out.trans (hb2.mono HB1.out.size)).mono HB0.out.size))
       clear hb2
       go_wp2_with fail
       go_ret
       exact ⟨rfl, HB2.out⟩)
  · have q1 : decide (80 < (len : Int)) = false := by simp; omega
    have q2 : decide (40 < n) = false := by simp; omega
    have q3 : decide (8 < (len3 : Int)) = false := by simp; omega
    have q4 : decide (300 < z) = false := by simp; omega
    have hl80 : len ≤ 80 := by omega
    have hn40 : n ≤ 40 := by omega
    have hl8 : len3 ≤ 8 := by omega
    have hz300 : z ≤ 300 := by omega
    have HX := Lib.hid hx
    have HR := Lib.hid hr
    have HNIL := Lib.hid hnil
    have HROWS := Lib.hid hrows
    have HDL := Lib.hid (decF_len (L := bitsOf false xs) (z := z) (n := n) ⟨xs.length, bitsOf_length false xs⟩ (by omega) (by omega))
    clear hbad hx hr hnil hrows hlc hlc3
    go_enter Tryd.func5, Tryd.ntmps5
    go_wp2_with fail
    go_quiet (fail)
    have HB0 := Lib.hid (HBX.out.trans ((show Drawn _ _ from ⟨nq, rfl⟩ : Drawn (w.alloc (.cells #[.int .i64 z, .int .i64 n] 51)) _).below w.heap.size))
    generalize (w.alloc (.cells #[.int .i64 z, .int .i64 n] 51)).drewN nq = w0 at *
    clear k0 k1 HBX
    have HT0 := Lib.hid (HT.out.below HB0.out HT.out.lt)
    go_wp2_with fail
    refine (lives_any w0 HT0.out).mono ?_
    rintro e w1 ⟨rfl, hb1⟩
    have HB1 := Lib.hid (HB0.out.trans (hb1.mono HB0.out.size))
    have hDC := decode_gen w1 (HT.out.below HB1.out HT.out.lt) p len cap xs z n (HR.out.below HB1.out) HX.out HNIL.out (by omega) (by omega)
    have hRD := fun w9 => rdecode_gen w9 xs z n (by have := HX.out; omega) (by omega)
    generalize decF (bitsOf false xs) z n = dd at *
    obtain ⟨Xs, er⟩ := dd
    simp only at hDC hRD HDL
    obtain ⟨nx, hnx⟩ : ∃ nx, nx = Xs.length := ⟨_, rfl⟩
    rw [← hnx] at hDC HDL
    have hRD2 : ∀ w9, Calls Tryd.prog 29 #[.string (bs xs), .int .i64 z, .int .i64 n] w9 fun e w' => Below w9.heap.size w9 w' ∧ ∃ q c, e = .returned (.tuple #[.slice q nx c, .int .i64 er]) ∧ VRow w' w'.heap.size q (txt Xs) := fun w9 => by rw [hnx]; exact hRD w9
    have HNX := Lib.hid hnx.symm
    have HDC := Lib.hid hDC
    have HRD := Lib.hid hRD2
    clear hb1 hDC hRD hRD2 hnx
    go_wp2_with fail
    refine HDC.out.mono ?_
    rintro e w2 ⟨hb2, qx, cx, rfl, htx⟩
    have HB2 := Lib.hid (HB1.out.trans (hb2.mono HB1.out.size))
    have HTX := Lib.hid htx
    have hconv : (convert 22 9 (.slice p len cap)).run Tryd.prog w2 = .ok (.string (bs xs)) w2 := conv_row len cap (HR.out.below HB2.out) HX.out
    clear hb2 htx HDC
    go_wp2_with fail
    refine (HRD.out w2).mono ?_
    rintro e w3 ⟨hb3, qy, cy, rfl, hty⟩
    have HB3 := Lib.hid (HB2.out.trans (hb3.mono HB2.out.size))
    have hne : (er != er) = false := by simp
    have HSM := Lib.hid (rsameT_any w3 qx qy nx cx cy Xs ((HTX.out.below hb3).mono hb3.size) hty HNX.out HDL.out.1 HDL.out.2)
    clear hb3 hty hconv HRD
    go_wp2_with fail
    refine HSM.out.mono ?_
    rintro e w4 ⟨rfl, hb4⟩
    have HB4 := Lib.hid (HB3.out.trans (hb4.mono HB3.out.size))
    obtain ⟨base, hbase⟩ : ∃ base, base = w4.heap.size := ⟨_, rfl⟩
    have HBS : Hid (base ≤ w4.heap.size ∧ w.heap.size ≤ base) := Lib.hid ⟨by omega, by have := HB4.out.size; omega⟩
    have HRW0 := Lib.hid (Rws.nil w4 base (fun kk => (Value.slice none 0 0).ownBlock = some kk))
    have HTX0 := Lib.hid (Txs.nil w4 base (fun kk => (Value.slice none 0 0).ownBlock = some kk))
    clear hb4 hbase HSM HTX
    go_wp2_with fail
    go_loopw [13, 14, 16, 17, 71] (fun sl st _ _ sk wr => ∃ (k : Nat) (R : List (List Bool)), k ≤ len3 ∧ sk = .int .i64 (k : Int) ∧ Hid (R.length = k) ∧ Hid (∀ X ∈ R, X.length = z.toNat) ∧ Hid (Rws wr base (fun kk => st.ownBlock = some kk) sl (R.map changes)) ∧ Hid (Txs wr base (fun kk => sl.ownBlock = some kk) st R) ∧ Hid (Below w.heap.size w wr) ∧ Hid (base ≤ wr.heap.size)) (fun _ _ _ _ sk _ => len3 - (intOf sk).toNat)
    case atStart => exact ⟨0, [], by omega, rfl, Lib.hid rfl, Lib.hid (fun X h => by cases h), HRW0, HTX0, HB4, Lib.hid HBS.out.1⟩
    case round =>
      obtain ⟨k, R, hk, rfl, HRl, HRn, HRW, HTX, HBr, HBZ⟩ := hrel
      by_cases hlt : k < len3
      · have hd : decide ((k : Int) < (len3 : Int)) = true := by simp; omega
        obtain ⟨bb, off, rfl, hbb, hcell⟩ := HROWS.out (by omega)
        obtain ⟨qr, lr, cr, ys, hcx, hyl, hyr, hyc⟩ := hcell k hlt
        have hc := (HBr.out.cell (p := ⟨bb, off + k, none⟩) hbb).trans hcx
        have i1 : (0 : Int) ≤ (k : Int) := by omega
        have i2 : (k : Int) < (len3 : Int) := by omega
        have hyr' := hyr.below HBr.out
        clear hcell hcx hbb hyr
        by_cases hz1 : z < 1
        · have hd2 : decide (z < 1) = true := by simpa using hz1
          go_wp2_with fail
          go_ret
          exact ⟨rfl, HBr.out⟩
        · have hd2 : decide (z < 1) = false := by simpa using hz1
          obtain ⟨wd, rfl⟩ : ∃ wd : Nat, z = (wd : Int) := ⟨z.toNat, by omega⟩
          by_cases hsh : lr < wd
          · have hd3 : decide ((lr : Int) < (wd : Int)) = true := by simp; omega
            go_wp2_with fail
            go_ret
            exact ⟨rfl, HBr.out⟩
          · have hd3 : decide (lr < wd) = false := by simp; omega
            have hs1 := fun W => head_run W qr lr cr wd (by omega)
            have hrow1 := head_row cr wd hyr'
            have hxn : (ys.take wd).length = wd := by rw [List.length_take]; omega
            generalize headA qr cr = h1 at *
            generalize ys.take wd = xa at *
            have HPX := Lib.hid (pixels_any h1 wd cr xa wr hrow1 hxn (by omega))
            have HXl : Hid ((pixB xa).length = wd) := Lib.hid (by rw [pixB_length]; exact hxn)
            have hCX := rchanges_new (pixB xa) wr (by rw [pixB_length]; omega)
            generalize pixB xa = X at *
            obtain ⟨T, hTd⟩ : ∃ T, T = ds X := ⟨_, rfl⟩
            rw [← hTd] at HPX hCX
            have HTD := Lib.hid hTd.symm
            have HCX := Lib.hid hCX
            clear hyl hyr' hrow1 hxn hsh hCX hTd
            go_wp2_with fail
            refine HPX.out.mono ?_
            rintro e w' ⟨rfl, rfl⟩
            go_wp2_with fail
            refine HCX.out.mono ?_
            rintro e w5 ⟨hb5, qd, cd, rfl, hvd, _, hcd, _, hfd⟩
            rw [zl_length] at hcd ⊢
            obtain ⟨md, hmd⟩ : ∃ md, md = (changes X).length := ⟨_, rfl⟩
            rw [← hmd] at hcd ⊢
            have HMD := Lib.hid hmd.symm
            have HVD := Lib.hid hvd
            have HCD := Lib.hid hcd
            have HB5 := Lib.hid (HBr.out.trans (hb5.mono HBr.out.size))
            have HRW5 := Lib.hid (HRW.out.only (Only.of_below hb5 : Only (fun _ => False) _ _) (fun _ _ _ _ e => e))
            have HTX5 := Lib.hid (HTX.out.only (Only.of_below hb5 : Only (fun _ => False) _ _) (fun _ _ _ _ e => e))
            have htlt : ∀ kk, u14.ownBlock = some kk → kk < wr.heap.size := fun kk hk => (HTX.out.1.lt kk hk).2
            have hllt : ∀ kk, u13.ownBlock = some kk → kk < wr.heap.size := fun kk hk => by
              obtain ⟨vs, h6, _⟩ := HRW.out
              exact (h6.lt kk hk).2
            have hf5 : ∀ ad, qd = some ad → 0 < (changes X).length → base ≤ ad.block ∧ u13.ownBlock ≠ some ad.block ∧ ¬ u14.ownBlock = some ad.block := fun ad ha h0 => by
              have h3 := hfd ad ha
              have h4 := HBZ.out
              exact ⟨by omega, fun e => by have := hllt _ e; omega, fun e => by have := htlt _ e; omega⟩
            have hn5 : ∀ kk, w5.heap.size ≤ kk → ¬ u14.ownBlock = some kk := fun kk hkk e => by have := htlt kk e; have := hb5.size; omega
            have HF5 := Lib.hid hf5
            have HN5 := Lib.hid hn5
            have HKM : Hid ((R.map changes).length = k) := Lib.hid (by rw [List.length_map]; exact HRl.out)
            have hbz5 : base ≤ w5.heap.size := Nat.le_trans HBZ.out hb5.size
            have hk1000 : k ≤ 1000 := by omega
            have HTL5 := Lib.hid (fun kk hk => Nat.lt_of_lt_of_le (htlt kk hk) hb5.size)
            clear hb5 hvd hcd hfd hmd htlt hllt hf5 hn5 HCX HPX
            go_wp2_with (at_builtin; refine wpList_append_rws rfl _ _ rfl base (fun kk => u14.ownBlock = some kk) _ (R.map changes) k HKM.out rfl HRW5.out (changes X) qd md cd HMD.out HVD.out HCD.out HF5.out HN5.out rfl rfl hk1000 hbz5 ?_)
            intro v7 w7 hw7 hb7 ho7 hon7
            have HB7 := Lib.hid (HB5.out.trans (hb7.mono HBS.out.2))
            have hz57 := hon7.2.2.2.1
            have HTX7a := HTX5.out.only hon7 (fun kk _ _ hN e => hN e)
            have HTX7 : Hid (Txs w7 base (fun kk => v7.ownBlock = some kk) u14 R) := Lib.hid ⟨HTX7a.1, fun kk hk e => by
              rcases ho7 kk e with e2 | e2
              · exact HTX7a.2 kk hk e2
              · have := HTL5.out kk hk; omega⟩
            have hvlt : ∀ kk, w7.heap.size ≤ kk → ¬ v7.ownBlock = some kk := fun kk hkk e => by
              obtain ⟨vs, h6, _⟩ := hw7
              have := (h6.lt kk e).2
              omega
            have HVLT := Lib.hid hvlt
            have HW7 := Lib.hid hw7
            have hbz7 : base ≤ w7.heap.size := Nat.le_trans hbz5 hz57
            have HV7S : Hid (∃ q7 m7 c7, v7 = .slice q7 m7 c7) := Lib.hid (by
              obtain ⟨q7, c7, h7, _⟩ := hw7.tbl
              exact ⟨q7, _, c7, h7⟩)
            clear hw7 hb7 ho7 hon7 HTX7a hvlt hz57
            obtain ⟨q7, m7, c7, hv7e⟩ := HV7S.out
            subst hv7e
            go_wp2_with (at_builtin; refine wpList_append_txt rfl _ _ rfl base (fun kk => (Value.slice q7 m7 c7).ownBlock = some kk) _ R k HRl.out rfl HTX7.out X T HTD.out HVLT.out rfl rfl hk1000 hbz7 ?_)
            intro v8 w8 hw8 hb8 ho8 hon8
            have HB8 := Lib.hid (HB7.out.trans (hb8.mono HBS.out.2))
            have hr1 := HW7.out.none (N' := fun kk => u14.ownBlock = some kk ∨ v8.ownBlock = some kk) (fun kk hkk hN hm => by
              rcases hm with e | e
              · exact hN e
              · rcases ho8 kk e with e2 | e2
                · exact hN e2
                · omega)
            have HRW8 : Hid (Rws w8 base (fun kk => v8.ownBlock = some kk) (.slice q7 m7 c7) ((R ++ [X]).map changes)) := Lib.hid (by
              rw [List.map_append]
              exact (hr1.only hon8 (fun kk _ _ hN e => hN (.inl e))).none (N' := fun kk => v8.ownBlock = some kk) (fun kk _ hN hm => hN (.inr hm)))
            have HTX8 := Lib.hid hw8
            have HBZ8 := Lib.hid (Nat.le_trans hbz7 hon8.2.2.2.1)
            have HRn8 : Hid (∀ Y ∈ R ++ [X], Y.length = (wd : Int).toNat) := Lib.hid (fun Y hY => by
              rcases List.mem_append.1 hY with e | e
              · exact HRn.out Y e
              · rw [List.mem_singleton.1 e, HXl.out]; omega)
            clear hw8 hb8 ho8 hon8 hr1
            go_wp2_with fail
            go_roundw
            case rel => exact ⟨k + 1, R ++ [X], by omega, by go_num, Lib.hid (by rw [List.length_append, HRl.out]; rfl), HRn8, HRW8, HTX8, HB8, HBZ8⟩
            case measure => simp [intOf]; omega
      · have hke : k = len3 := by omega
        subst hke
        have hd : decide ((k : Int) < (k : Int)) = false := by simp
        obtain ⟨ql, cl, hsl, htl, _⟩ := HRW.out.tbl
        obtain ⟨qt, ct, hst, htt, _⟩ := HTX.out.tbl
        rw [List.length_map, HRl.out] at hsl
        rw [HRl.out] at hst
        have HTL := Lib.hid htl
        have HTT := Lib.hid htt
        subst hsl hst
        clear htl htt HRW HTX
        by_cases hz1 : z < 1
        · have hd2 : decide (z < 1) = true := by simpa using hz1
          have HEN := Lib.hid (encode_bad wr ql k cl z (by unfold wideM; simp; omega))
          go_wp2_with fail
          refine HEN.out.mono ?_
          rintro e w' ⟨rfl, rfl⟩
          go_wp2_with fail
          go_ret
          exact ⟨rfl, HBr.out⟩
        · have hd2 : decide (z < 1) = false := by simpa using hz1
          obtain ⟨wd, rfl⟩ : ∃ wd : Nat, z = (wd : Int) := ⟨z.toNat, by omega⟩
          have hRn : ∀ X ∈ R, X.length = wd := fun X hX => by rw [HRn.out X hX]; omega
          have hRl := HRl.out
          have hpage : (R.map changes).map (rowC · wd) = R.map rowF := by
            rw [List.map_map]
            refine List.map_congr_left (fun X hX => ?_)
            show rowC (changes X) wd = rowF X
            rw [← hRn X hX]
            rfl
          have hrf : ∀ r ∈ R.map rowF, r.length ≤ 7826 := fun r hr => by
            obtain ⟨X, hX, rfl⟩ := List.mem_map.1 hr
            have h1 := hRn X hX
            have h2 := restR_len2 X false 0 (by omega)
            rw [rowF_runs]
            unfold restR at h2
            omega
          have hplen := pageP_len 7826 (R.map rowF) [] hrf
          rw [List.length_map, hRl, List.length_nil, Nat.zero_add] at hplen
          have hpl2 : (pageP [] (R.map rowF)).length ≤ 90000 := by
            have := Nat.mul_le_mul_right (7826 + 7) hl8
            omega
          have HEN := encode_any wr (HT.out.below HBr.out HT.out.lt) ql k cl (R.map changes) wd HTL.out (by rw [List.length_map]; exact hRl) (by omega) (fun d hd => by
            obtain ⟨X, hX, rfl⟩ := List.mem_map.1 hd
            have h := Rn.changes_valid X
            rw [hRn X hX] at h
            exact h) (fun d hd => by
            obtain ⟨X, hX, rfl⟩ := List.mem_map.1 hd
            have h1 := hRn X hX
            have := Rn.chg_len X false 0
            unfold changes
            omega) (by omega) (by omega) (by rw [hpage]; omega)
          rw [hpage] at HEN
          have HRE := Lib.hid (fun (z9 : World) (hb : Below wr.heap.size wr z9) => rencode_any z9 qt k ct R ((HTT.out.below hb (Nat.le_refl _)).mono hb.size) hRl (fun X hX => by have := hRn X hX; omega) (by omega) hpl2)
          have HEN2 := Lib.hid HEN
          obtain ⟨K1, hK1⟩ : ∃ K1, K1 = packB false (pageP [] (R.map rowF)) := ⟨_, rfl⟩
          unfold EncP at HEN2
          rw [← hK1] at HRE HEN2
          clear HEN hpage hrf hplen hpl2 hRn hRl hK1
          go_wp2_with fail
          refine HEN2.out.mono ?_
          rintro e w8 ⟨hb8, q8, c8, rfl, hr8, hn8, hc8⟩
          have HB8 := Lib.hid hb8
          have HFIN := Lib.hid (HBr.out.trans (hb8.mono HBr.out.size))
          have HR8 := Lib.hid hr8
          have hcv := conv_row (w := w8.drew) K1.length c8 hr8 rfl
          have hbd : Below w8.heap.size w8 w8.drew := (show Drawn w8 w8.drew from ⟨1, rfl⟩).below _
          clear hb8 hr8 hn8 hc8 HEN2
          go_wp2_with fail
          refine wp_region_held_drew (S := fun _ => True) (by kernel_rfl) trivial (fun hHeld => ?_)
          refine wpAnyH_take (i := 0) (v := ?v1) rfl (by kernel_rfl) (by kernel_rfl) (by kernel_rfl) (fun _ _ _ h => h) (Or.inl ⟨by rfl, fun w hSw => ?y1⟩) trivial ?r1
          case y1 => (try dsimp only at hSw); first | (go_simp; done) | (go_simp; with_reducible rfl)
          try simp only [Act.put, List.setIfInBounds_toArray, List.set_cons_zero, List.set_cons_succ, List.getElem_toArray, List.getElem_cons_zero, List.getElem_cons_succ]
          refine wpAnyH_take (i := 1) (v := ?v2) rfl (by kernel_rfl) (by kernel_rfl) (by kernel_rfl) (fun _ _ _ h => h) (Or.inl ⟨by rfl, fun w hSw => ?y2⟩) trivial ?r2
          case y2 => (try dsimp only at hSw); first | (go_simp; done) | (go_simp; with_reducible rfl)
          try simp only [Act.put, List.setIfInBounds_toArray, List.set_cons_zero, List.set_cons_succ, List.getElem_toArray, List.getElem_cons_zero, List.getElem_cons_succ]
          refine wpAnyH_take (i := 2) (v := ?v3) rfl (by kernel_rfl) (by kernel_rfl) (by kernel_rfl) (fun _ _ _ h => h) (Or.inl ⟨by rfl, fun w hSw => ?y3⟩) trivial ?r3
          case y3 => (try dsimp only at hSw); first | (go_simp; done) | (go_simp; with_reducible rfl)
          try simp only [Act.put, List.setIfInBounds_toArray, List.set_cons_zero, List.set_cons_succ, List.getElem_toArray, List.getElem_cons_zero, List.getElem_cons_succ]
          refine wpAnyH_take (i := 3) (v := ?v4) rfl (by kernel_rfl) (by kernel_rfl) (by kernel_rfl) (fun _ _ _ h => h) (Or.inl ⟨by rfl, fun w hSw => ?y4⟩) trivial ?r4
          case y4 => (try dsimp only at hSw); first | (go_simp; done) | (go_simp; with_reducible rfl)
          try simp only [Act.put, List.setIfInBounds_toArray, List.set_cons_zero, List.set_cons_succ, List.getElem_toArray, List.getElem_cons_zero, List.getElem_cons_succ]
          refine wpAnyH_take (i := 5) (v := ?v5) rfl (by kernel_rfl) (by kernel_rfl) (by kernel_rfl) (fun _ _ _ h => h) (Or.inl ⟨by rfl, fun w hSw => ?y5⟩) trivial ?r5
          case y5 => (try dsimp only at hSw); first | (go_simp; done) | (go_simp; with_reducible rfl)
          try simp only [Act.put, List.setIfInBounds_toArray, List.set_cons_zero, List.set_cons_succ, List.getElem_toArray, List.getElem_cons_zero, List.getElem_cons_succ]
          refine wpAnyH_ready (rs := [4, 6]) (by kernel_rfl) (by simp) ?_
          refine AllReadyH.cons rfl (fun K hK => ?_) (AllReadyH.cons rfl (fun K hK => ?_) AllReadyH.nil)
          · go_simp
            refine hK.out _ _ trivial (fun _ => ?_)
            clear hK K
            try simp only [Act.put, List.setIfInBounds_toArray, List.set_cons_zero, List.set_cons_succ, List.getElem_toArray, List.getElem_cons_zero, List.getElem_cons_succ]
            refine wpAnyH_ready (rs := [6]) (by kernel_rfl) (by simp) ?_
            refine AllReadyH.cons rfl (fun K hK => ?_) AllReadyH.nil
            go_simp
            refine (HRE.out _ (HB8.out.trans (hbd.mono HB8.out.size))).mono ?_
            rintro e z4 ⟨rfl, hb4⟩
            have hbz := hbd.trans hb4
            go_wp2_with fail
            refine hK.out _ _ trivial (fun hQ => ?_)
            clear hK K
            try simp only [Act.put, List.setIfInBounds_toArray, List.set_cons_zero, List.set_cons_succ, List.getElem_toArray, List.getElem_cons_zero, List.getElem_cons_succ]
            refine wpAnyH_take (i := 7) (v := ?v6) rfl (by kernel_rfl) (by kernel_rfl) (by kernel_rfl) (fun _ _ _ h => h) (Or.inl ⟨by rfl, fun w hSw => ?y6⟩) trivial ?r6
            case y6 => (try dsimp only at hSw); first | (go_simp; done) | (go_simp; with_reducible rfl)
            try simp only [Act.put, List.setIfInBounds_toArray, List.set_cons_zero, List.set_cons_succ, List.getElem_toArray, List.getElem_cons_zero, List.getElem_cons_succ]
            refine wpAnyH_take (i := 8) (v := ?v7) rfl (by kernel_rfl) (by kernel_rfl) (by kernel_rfl) (fun _ _ _ h => h) (Or.inl ⟨by rfl, fun w hSw => ?y7⟩) trivial ?r7
            case y7 => (try dsimp only at hSw); first | (go_simp; done) | (go_simp; with_reducible rfl)
            try simp only [Act.put, List.setIfInBounds_toArray, List.set_cons_zero, List.set_cons_succ, List.getElem_toArray, List.getElem_cons_zero, List.getElem_cons_succ]
            refine wpAnyH_take (i := 9) (v := ?v8) rfl (by kernel_rfl) (by kernel_rfl) (by kernel_rfl) (fun _ _ _ h => h) (Or.inl ⟨by rfl, fun w hSw => ?y8⟩) trivial ?r8
            case y8 => (try dsimp only at hSw); first | (go_simp; done) | (go_simp; with_reducible rfl)
            try simp only [Act.put, List.setIfInBounds_toArray, List.set_cons_zero, List.set_cons_succ, List.getElem_toArray, List.getElem_cons_zero, List.getElem_cons_succ]
            refine wpAnyH_done (by kernel_rfl) ?_ _
            have HBE := Lib.hid (HFIN.out.trans (hbz.mono HFIN.out.size))
            go_wp2_with fail
            go_ret
            exact ⟨rfl, HBE.out⟩
          · go_simp
            refine (HRE.out _ (HB8.out.trans (hbd.mono HB8.out.size))).mono ?_
            rintro e z4 ⟨rfl, hb4⟩
            have hbz := hbd.trans hb4
            have hcv4 := conv_row K1.length c8 ((HR8.out.below hbd).below hb4) rfl
            go_wp2_with fail
            refine hK.out _ _ trivial (fun _ => ?_)
            clear hK K
            try simp only [Act.put, List.setIfInBounds_toArray, List.set_cons_zero, List.set_cons_succ, List.getElem_toArray, List.getElem_cons_zero, List.getElem_cons_succ]
            refine wpAnyH_ready (rs := [4]) (by kernel_rfl) (by simp) ?_
            refine AllReadyH.cons rfl (fun K hK => ?_) AllReadyH.nil
            go_simp
            refine hK.out _ _ trivial (fun hQ => ?_)
            clear hK K
            try simp only [Act.put, List.setIfInBounds_toArray, List.set_cons_zero, List.set_cons_succ, List.getElem_toArray, List.getElem_cons_zero, List.getElem_cons_succ]
            refine wpAnyH_take (i := 7) (v := ?v9) rfl (by kernel_rfl) (by kernel_rfl) (by kernel_rfl) (fun _ _ _ h => h) (Or.inl ⟨by rfl, fun w hSw => ?y9⟩) trivial ?r9
            case y9 => (try dsimp only at hSw); first | (go_simp; done) | (go_simp; with_reducible rfl)
            try simp only [Act.put, List.setIfInBounds_toArray, List.set_cons_zero, List.set_cons_succ, List.getElem_toArray, List.getElem_cons_zero, List.getElem_cons_succ]
            refine wpAnyH_take (i := 8) (v := ?v10) rfl (by kernel_rfl) (by kernel_rfl) (by kernel_rfl) (fun _ _ _ h => h) (Or.inl ⟨by rfl, fun w hSw => ?y10⟩) trivial ?r10
            case y10 => (try dsimp only at hSw); first | (go_simp; done) | (go_simp; with_reducible rfl)
            try simp only [Act.put, List.setIfInBounds_toArray, List.set_cons_zero, List.set_cons_succ, List.getElem_toArray, List.getElem_cons_zero, List.getElem_cons_succ]
            refine wpAnyH_take (i := 9) (v := ?v11) rfl (by kernel_rfl) (by kernel_rfl) (by kernel_rfl) (fun _ _ _ h => h) (Or.inl ⟨by rfl, fun w hSw => ?y11⟩) trivial ?r11
            case y11 => (try dsimp only at hSw); first | (go_simp; done) | (go_simp; with_reducible rfl)
            try simp only [Act.put, List.setIfInBounds_toArray, List.set_cons_zero, List.set_cons_succ, List.getElem_toArray, List.getElem_cons_zero, List.getElem_cons_succ]
            refine wpAnyH_done (by kernel_rfl) ?_ _
            have HBE := Lib.hid (HFIN.out.trans (hbz.mono HFIN.out.size))
            go_wp2_with fail
            go_ret
            exact ⟨rfl, HBE.out⟩
end Go.Proofs.YtgddpjnikgcamaaDoor.Mh
