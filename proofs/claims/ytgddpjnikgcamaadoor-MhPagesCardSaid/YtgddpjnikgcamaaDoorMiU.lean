
/- The document's Decode, Same and Encode. -/
import Derived.Test.YtgddpjnikgcamaaDoorMiS
import Derived.Test.YtgddpjnikgcamaaDoorBitV
import Derived.Deep.RegionHeld3
namespace Go.Proofs.YtgddpjnikgcamaaDoor.Mh
open Go.RowKit Go.Proofs.YtgddpjnikgcamaaDoor.Oct Go.Proofs.YtgddpjnikgcamaaDoor.Bit
open Go.Proofs.YtgddpjnikgcamaaDoor.Rn (changes zl zl_length Valid rchanges_new)
open Go.Proofs.YtgddpjnikgcamaaDoor.Lp (VRow ints ints_length vrow_own)
set_option linter.unusedVariables false
set_option linter.unusedSimpArgs false
set_option maxRecDepth 100000

theorem readRowA_le {L : List Bool} {wd : Nat} : ∀ (f t : Nat) (P : List Bool) (b : Bool), L.length + 1 ≤ f + t → t ≤ L.length → (readRowA L wd t P b).1 ≤ L.length
  | 0, t, P, b, hf, ht => by omega
  | f + 1, t, P, b, hf, ht => by
    rw [readRowA_eq L wd t P b ht]
    have h1 := lenA_lt b (L := L) (most := wd - P.length) (n := 0) ht
    rcases hy : Fx.lenA b L (wd - P.length) t 0 with ⟨t1, c | m⟩
    · rw [hy] at h1
      exact h1.1
    · rw [hy] at h1
      simp only at h1 ⊢
      split
      · exact h1.1
      · exact readRowA_le f t1 _ _ (by have := (h1.2.2 m rfl).1; omega) h1.1
/-- texts of pixels -/
def txt (R : List (List Bool)) : List Value := R.map fun X => .string (ds X)
theorem txt_length (R : List (List Bool)) : (txt R).length = R.length := by simp [txt]
theorem txt_append (R S : List (List Bool)) : txt (R ++ S) = txt R ++ txt S := by simp [txt]
theorem txt_get {w : World} {C b off : Nat} {R : List (List Bool)} (h : VRow w C (some ⟨b, off, none⟩) (txt R)) {i : Nat} (hi : i < R.length) : w.cell? ⟨b, off + i, none⟩ = some (.string (ds R[i])) := by
  obtain ⟨b', off', e, _, hc⟩ := h (by rw [txt_length]; omega)
  injection e with e
  injection e with e1 e2 _
  subst e1 e2
  rw [hc i (by rw [txt_length]; exact hi)]
  simp [txt]
/-- an own row of texts, in none of N's blocks -/
def Txs (w : World) (base : Nat) (N : Nat → Prop) (v : Value) (R : List (List Bool)) : Prop := w.ownsRow base 9 1 v R.length (txt R) ∧ ∀ k, v.ownBlock = some k → ¬ N k
theorem Txs.nil (w : World) (base : Nat) (N : Nat → Prop) : Txs w base N (.slice none 0 0) [] := ⟨World.ownsRow_nil _ _ _ _, fun k h => by cases h⟩
theorem Txs.only {S N : Nat → Prop} {w w' : World} {base : Nat} {v : Value} {R : List (List Bool)} (h : Txs w base N v R) (ho : Only S w w') (hS : ∀ k, base ≤ k → k < w.heap.size → ¬ N k → ¬ S k) : Txs w' base N v R := by
  refine ⟨⟨h.1.1, ?_⟩, h.2⟩
  rcases h.1.2 with hn | ⟨g, cap, cur, rfl, hb, hh, r⟩
  · exact .inl hn
  · refine .inr ⟨g, cap, cur, rfl, hb, ?_, r⟩
    have hlt : g < w.heap.size := by
      rcases Nat.lt_or_ge g w.heap.size with hlt | hge
      · exact hlt
      · rw [Array.getElem?_eq_none hge] at hh; cases hh
    rw [ho.2.2.2.2 g hlt (hS g hb hlt (h.2 g rfl))]
    exact hh
theorem Txs.tbl {w : World} {base : Nat} {N : Nat → Prop} {v : Value} {R : List (List Bool)} (h : Txs w base N v R) : ∃ q c, v = .slice q R.length c ∧ VRow w w.heap.size q (txt R) ∧ R.length ≤ c ∧ c ≤ maxLen := by
  obtain ⟨q, c, h3, h4, h5, h6, h7, _⟩ := vrow_own h.1 (txt_length R)
  exact ⟨q, c, h3, h7, h5, h6⟩
theorem Tryd.infoStrH : (Tryd.prog.info? 9).map (fun i => (i.zero, i.size, i.bytes)) = some (some (.string ByteArray.empty), 1, 16) := by kernel_rfl
/-- a text appended to texts -/
theorem wpList_append_txt {w w0 : World} {ops : Array Oper} {rest : List Oper} {o : Oper} {a : Act} {Q : Exit → Act → World → Prop}
    (hgd : o.guard = none) (s x : Operand) (ho : o.op = .call { callee := .builtin .append, args := #[s, x], argTypes := #[56, 56] })
    (base : Nat) (N : Nat → Prop) (v : Value) (R : List (List Bool)) (n : Nat) (hn : R.length = n) (hs : a.eval s = v) (h0 : Txs w0 base N v R) (X : List Bool) (T : ByteArray) (hTX : ds X = T) (hNew : ∀ k, w0.heap.size ≤ k → ¬ N k)
    (hw : w = w0.alloc (.cells #[.string T] 9)) (hx : a.eval x = .slice (some ⟨w0.heap.size, 0, none⟩) 1 1) (hl : n ≤ 1000) (hbase : base ≤ w0.heap.size)
    (h : ∀ v' w', Txs w' base N v' (R ++ [X]) → Below base w0 w' → (∀ k, v'.ownBlock = some k → v.ownBlock = some k ∨ w0.heap.size ≤ k) → Only (fun k => v.ownBlock = some k) w0 w' → wpList Tryd.prog ops Q rest (a.put o.dst v') w') :
    wpList Tryd.prog ops Q (o :: rest) a w := by
  obtain ⟨i0, hi, hz0, hz1, hz2⟩ := info_parts Tryd.infoStrH
  subst hw
  subst hn
  subst hTX
  have hb1 : Below w0.heap.size w0 (w0.alloc (.cells #[.string (ds X)] 9)) := (Below.refl _ w0).alloc (Nat.le_refl _) _
  have hT := h0.only (Only.of_below hb1 : Only (fun _ => False) _ _) (fun _ _ _ _ e => e)
  obtain ⟨h1, hN0⟩ := hT
  refine wpList_append_lies _ hgd s x 56 ho base 9 i0 (.string ByteArray.empty) 1 16 Tryd.underlying56 hi hz0 hz1 hz2 rfl (by decide) v R.length (txt R) hs h1 ⟨w0.heap.size, 0, none⟩ 1 1 [.string (ds X)] hx rfl ?_ (fun u hu => by simp at hu; subst hu; rfl) (by decide) (by unfold maxLen; omega) (by omega) (Nat.le_trans hbase hb1.size) _ rfl ?_
  · intro j u hj
    have hj0 : j = 0 := by
      have := (List.getElem?_eq_some_iff.1 hj).1
      simp at this
      omega
    subst hj0
    have hq : u = .string (ds X) := by simpa using hj.symm
    subst hq
    rw [add_plain]
    simp
  · intro g' cap w' k1 k2 k3 k4
    have hon : Only (fun k => v.ownBlock = some k) (w0.alloc (.cells #[.string (ds X)] 9)) w' := ⟨k2.os, k2.tape, k2.output, k2.size, fun k hk hs => k2.block k hk (fun e => hs e.symm)⟩
    have hold : ∀ k, (Value.slice (some ⟨g', 0, none⟩) (R.length + 1) cap).ownBlock = some k → v.ownBlock = some k ∨ w0.heap.size ≤ k := fun k e => by
      injection e with e
      simp only at e
      rcases k3 with h3 | h3
      · left; rw [h3, e]
      · right; have := hb1.size; omega
    refine h _ w' ⟨?_, fun k hk => ?_⟩ ((hb1.mono hbase).trans ((Below.refl _ _).grown k2 (Nat.le_trans hbase hb1.size) (fun k hk => (World.ownsRow.lt h1 k hk).1))) hold ((Only.of_below hb1 : Only (fun k => v.ownBlock = some k) _ _).trans hon)
    · rw [List.length_append, txt_append]
      exact k1
    · rcases hold k hk with h3 | h3
      · exact hN0 k h3
      · exact hNew k h3
theorem rfits_any (n : Int) (w : World) : Calls Tryd.prog 60 #[.int .i64 n] w fun e w' => e = .returned (.bool (wideM n)) ∧ w = w' := by
  by_cases h0 : 1 ≤ n
  · by_cases h1 : n ≤ 32768
    · have e : wideM n = true := by simp [wideM, h0, h1]
      rw [e]; clear e
      go_enter Tryd.func60, Tryd.ntmps60
      go_wp2
      go_ret
      exact ⟨rfl, rfl⟩
    · have e : wideM n = false := by simp [wideM, h1]
      rw [e]; clear e
      have hd : decide (n ≤ 32768) = false := by simpa using h1
      go_enter Tryd.func60, Tryd.ntmps60
      go_wp2
      go_ret
      exact ⟨rfl, rfl⟩
  · have e : wideM n = false := by simp [wideM, h0]
    rw [e]; clear e
    have hd : decide (1 ≤ n) = false := by simpa using h0
    go_enter Tryd.func60, Tryd.ntmps60
    go_wp2
    go_ret
    exact ⟨rfl, rfl⟩
def RDecP (w : World) (r : Except Nat (List (List Bool))) (e : Ending) (w' : World) : Prop := Below w.heap.size w w' ∧ match r with
  | .error ce => e = .returned (.tuple #[.slice none 0 0, .int .i64 (ce : Int)])
  | .ok Xs => ∃ q c, e = .returned (.tuple #[.slice q Xs.length c, .int .i64 0]) ∧ VRow w' w'.heap.size q (txt Xs)
theorem rdecode_bad (w : World) (b : ByteArray) (z n : Int) (hb : wideM z = false ∨ n < 0) : Calls Tryd.prog 29 #[.string b, .int .i64 z, .int .i64 n] w (ArgR w) := by
  have hok := rfits_any z w
  by_cases hz : wideM z = true
  · rw [hz] at hok
    have HOK := Lib.hid hok
    have hd : decide (n < 0) = true := by
      rcases hb with h | h
      · rw [hz] at h; cases h
      · simpa using h
    clear hok hb hz
    go_enter Tryd.func29, Tryd.ntmps29
    go_wp2_with fail
    refine HOK.out.mono ?_
    rintro e w' ⟨rfl, rfl⟩
    go_wp2_with fail
    go_ret2
    exact ⟨rfl, rfl⟩
  · have hz' : wideM z = false := by simpa using hz
    rw [hz'] at hok
    have HOK := Lib.hid hok
    clear hok hb hz hz'
    go_enter Tryd.func29, Tryd.ntmps29
    go_wp2_with fail
    refine HOK.out.mono ?_
    rintro e w' ⟨rfl, rfl⟩
    go_wp2_with fail
    go_ret2
    exact ⟨rfl, rfl⟩
set_option maxHeartbeats 8000000 in
theorem rdecode_any (w : World) (xs : List UInt8) (wd n : Nat) (hx : xs.length ≤ 1000) (h1 : 1 ≤ wd) (hw : wd ≤ 32768) (hn : n ≤ 1000) :
    Calls Tryd.prog 29 #[.string (bs xs), .int .i64 (wd : Int), .int .i64 (n : Int)] w (RDecP w (decB (bitsOf false xs) wd n 0 [])) := by
  have hwd : wideM (wd : Int) = true := by unfold wideM; simp; omega
  have hok := rfits_any (wd : Int) w
  rw [hwd] at hok
  have HOK := Lib.hid hok
  obtain ⟨r, hrd⟩ : ∃ r, r = decB (bitsOf false xs) wd n 0 [] := ⟨_, rfl⟩
  have HRD := Lib.hid hrd.symm
  rw [← hrd]
  have HOF := Lib.hid (rof_any xs false w hx)
  have hLl : (bitsOf false xs).length = 8 * xs.length := bitsOf_length false xs
  have HLL := Lib.hid hLl
  clear hok hwd hrd
  go_enter Tryd.func29, Tryd.ntmps29
  go_wp2_with fail
  refine HOK.out.mono ?_
  rintro e w' ⟨rfl, rfl⟩
  go_wp2_with fail
  refine HOF.out.mono ?_
  rintro e w1 ⟨rfl, hb1⟩
  have HB1 := Lib.hid hb1
  have hz1 := hb1.size
  generalize bitsOf false xs = L at *
  clear hb1 HOK HOF
  go_wp2_with fail
  go_loopw [9, 10, 11, 12, 13, 14] (fun sv sat sk _ _ _ wr => ∃ (k t at8 : Nat) (acc : List (List Bool)), k ≤ n ∧ sk = .int .i64 (k : Int) ∧ sat = .int .i64 (at8 : Int) ∧ Hid (at8 = 8 * ((t + 7) / 8)) ∧ at8 ≤ L.length ∧ Hid (acc.length = k) ∧ Hid (Txs wr w1.heap.size (fun _ => False) sv acc) ∧ Hid (Below w1.heap.size w1 wr) ∧ Hid (decB L wd (n - k) t acc = r)) (fun _ _ sk _ _ _ _ => n - (intOf sk).toNat)
  case atStart => exact ⟨0, 0, 0, [], by omega, rfl, rfl, Lib.hid rfl, Nat.zero_le _, Lib.hid rfl, Lib.hid (Txs.nil _ _ _), Lib.hid (Below.refl _ _), HRD⟩
  case round =>
    obtain ⟨k, t, at8, acc, hk, rfl, rfl, HAT, hatl, HAK, HTx, HBr, HE⟩ := hrel
    by_cases hlt : k < n
    · have hd : decide ((k : Int) < (n : Int)) = true := by simp; omega
      have HQ : Hid (r = match (readRowA L wd at8 [] false).2 with
          | .error e => .error e
          | .ok X => decB L wd (n - (k + 1)) (readRowA L wd at8 [] false).1 (acc ++ [X])) := Lib.hid (by
        rw [← HE.out, show n - k = (n - (k + 1)) + 1 from by omega, HAT.out]
        rfl)
      have HRR := Lib.hid (rreadRow_any L at8 wd wr hatl (by omega) h1 hw)
      have HNE := Lib.hid (fun e h => lenA_ne0 (L := L) (wd := wd) (e := e) (L.length + 1) at8 [] false (by omega) hatl h)
      have HL1 := Lib.hid (rowS_le fun X h => readRowA_len (L := L) (n := wd) (X := X) (L.length + 1) at8 [] false (by omega) hatl h)
      have HLE : Hid ((readRowA L wd at8 [] false).1 ≤ L.length) := Lib.hid (readRowA_le (L.length + 1) at8 [] false (by omega) hatl)
      generalize readRowA L wd at8 [] false = ra at *
      obtain ⟨t4, x⟩ := ra
      clear HE
      go_wp2_with fail
      refine HRR.out.mono ?_
      rintro e w4 ⟨he4, hb4⟩
      unfold RRowP at he4
      subst he4
      have HB4 := Lib.hid (HBr.out.trans (hb4.mono HBr.out.size))
      have HTx4 := Lib.hid (HTx.out.only (Only.of_below hb4 : Only (fun _ => False) _ _) (fun _ _ _ _ e => e))
      have hq := HQ.out
      try simp only at hq
      clear hb4 HRR
      rcases x with ce | X
      · have hce := HNE.out ce rfl
        have HQ2 := Lib.hid hq
        have HBF := Lib.hid (HB1.out.trans (HB4.out.mono hz1))
        simp only [rowE, rowS]
        clear hq
        go_wp2_with fail
        go_ret2
        rw [HQ2.out]
        exact ⟨HBF.out, rfl⟩
      · have HQ2 := Lib.hid hq.symm
        have ht4 : t4 ≤ L.length := HLE.out
        simp only [rowE, rowS]
        obtain ⟨T, hT⟩ : ∃ T, T = ds X := ⟨_, rfl⟩
        rw [← hT]
        have HTT := Lib.hid hT.symm
        obtain ⟨u8, hu8⟩ : ∃ u8, u8 = 8 * ((t4 + 7) / 8) := ⟨_, rfl⟩
        have hu1 : (((t4 : Int) + 7).tdiv 8 * 8 : Int) = (u8 : Int) := by
          rw [Int.tdiv_eq_ediv_of_nonneg (by omega)]
          omega
        have hu2 : (((t4 : Int) + 7) / 8 * 8 : Int) = (u8 : Int) := by omega
        have hul : u8 ≤ L.length := by omega
        have HU8 := Lib.hid hu8
        have hwz : w1.heap.size ≤ w4.heap.size := HB4.out.size
        have hk1000 : k ≤ 1000 := by omega
        clear hq hT hu8
        go_wp2_with (at_builtin; refine wpList_append_txt rfl _ _ rfl w1.heap.size (fun _ => False) _ acc k HAK.out rfl HTx4.out X T HTT.out (fun _ _ e => e) rfl rfl hk1000 hwz ?_)
        intro v5 w5 hw5 hb5 _ _
        have HT5 := Lib.hid hw5
        have HB5 := Lib.hid (HB4.out.trans hb5)
        clear hw5 hb5
        go_wp2_with fail
        go_roundw
        case rel => exact ⟨k + 1, t4, u8, acc ++ [X], by omega, by go_num, rfl, HU8, hul, Lib.hid (by rw [List.length_append, HAK.out]; rfl), HT5, HB5, HQ2⟩
        case measure => simp [intOf]; omega
    · have hke : k = n := by omega
      have hd : decide ((k : Int) < (n : Int)) = false := by simp; omega
      have HQ : Hid (r = .ok acc) := Lib.hid (by
        rw [← HE.out, show n - k = 0 from by omega]
        rfl)
      obtain ⟨q5, c5, hv5, ht5, _⟩ := HTx.out.tbl
      have HV5 := Lib.hid hv5
      have HT5 := Lib.hid ht5
      have HBF := Lib.hid (HB1.out.trans (HBr.out.mono hz1))
      clear hv5 ht5
      go_wp2_with fail
      go_ret2
      rw [HQ.out]
      exact ⟨HBF.out, q5, c5, by rw [HV5.out]; rfl, HT5.out⟩
end Go.Proofs.YtgddpjnikgcamaaDoor.Mh
