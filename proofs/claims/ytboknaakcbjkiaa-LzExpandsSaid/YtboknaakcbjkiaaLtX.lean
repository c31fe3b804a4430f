
/- The contract of Expand. -/
import Derived.Test.YtboknaakcbjkiaaLtQ
namespace Go.Proofs.Ytboknaakcbjkiaa.Lzt
open Go.RowKit Go.Proofs.Ytboknaakcbjkiaa.Oct
set_option linter.unusedVariables false
set_option linter.unusedSimpArgs false
set_option maxRecDepth 100000

theorem step_bad {m : Int} {t : Tok} {out : List UInt8} (h : faultX t out.length ≠ 0) : stepX m t out = .error (faultX t out.length) := by
  unfold faultX at h ⊢
  unfold stepX
  by_cases h0 : t.len = 0
  · rw [if_pos h0] at h
    exact absurd rfl h
  · rw [if_neg h0] at h ⊢
    rw [if_neg h0]
    by_cases h1 : t.len < 3 ∨ 258 < t.len ∨ t.dist < 1 ∨ 32768 < t.dist
    · rw [if_pos h1, if_pos h1]
    · rw [if_neg h1] at h ⊢
      rw [if_neg h1]
      by_cases h2 : (out.length : Int) < t.dist
      · rw [if_pos h2, if_pos h2]
      · rw [if_neg h2] at h
        exact absurd rfl h
theorem fault_is (t : Tok) (k : Nat) : faultX t k = 0 ∨ faultX t k = 1 ∨ faultX t k = 3 := by
  unfold faultX
  split
  · exact .inl rfl
  · split
    · exact .inr (.inl rfl)
    · split
      · exact .inr (.inr rfl)
      · exact .inl rfl
theorem fault_ok {t : Tok} {k : Nat} (h : faultX t k = 0) : t.len = 0 ∨ (3 ≤ t.len ∧ t.len ≤ 258 ∧ 1 ≤ t.dist ∧ t.dist ≤ 32768 ∧ t.dist ≤ (k : Int)) := by
  unfold faultX at h
  by_cases h0 : t.len = 0
  · exact .inl h0
  · rw [if_neg h0] at h
    by_cases h1 : t.len < 3 ∨ 258 < t.len ∨ t.dist < 1 ∨ 32768 < t.dist
    · rw [if_pos h1] at h; cases h
    · rw [if_neg h1] at h
      by_cases h2 : (k : Int) < t.dist
      · rw [if_pos h2] at h; cases h
      · exact .inr (by omega)
theorem step_good {m : Int} {t : Tok} {out : List UInt8} (h : faultX t out.length = 0) : stepX m t out = if m < (out.length : Int) + max t.len 1 then .error 8 else .ok (tellX t out) := by
  unfold stepX tellX
  rcases fault_ok h with h0 | ⟨h1, h2, h3, h4, h5⟩
  · rw [if_pos h0, if_pos h0, h0]
    rfl
  · rw [if_neg (by omega : ¬ t.len = 0), if_neg (by omega), if_neg (by omega), show max t.len 1 = t.len by omega, if_neg (by omega : ¬ t.len = 0)]
theorem tell_length {t : Tok} {out : List UInt8} (h : faultX t out.length = 0) : ((tellX t out).length : Int) = (out.length : Int) + max t.len 1 := by
  unfold tellX
  rcases fault_ok h with h0 | ⟨h1, h2, h3, h4, h5⟩
  · rw [if_pos h0, h0, List.length_append, show max (0 : Int) 1 = 1 from rfl]
    simp
  · rw [if_neg (by omega), copyN_length]
    omega
theorem append_any (v : Value) (base : Nat) (t : Tok) (out : List UInt8) (w : World) (ho : w.ownsRow base 5 1 v out.length (cellsOf out)) (hbw : base ≤ w.heap.size) (hl : out.length ≤ 100000) (h : faultX t out.length = 0) :
    Calls Try.prog 12 #[v, tokV t] w (AppP w base (tellX t out)) := by
  obtain ⟨x, n, d⟩ := t
  rcases fault_ok h with h0 | ⟨h1, h2, h3, h4, h5⟩
  · simp only at h0
    subst h0
    exact append_lit v base x d out w ho hbw hl
  · simp only at h1 h2 h3 h4 h5
    obtain ⟨N, rfl⟩ : ∃ N : Nat, n = (N : Int) := ⟨n.toNat, by omega⟩
    obtain ⟨D, rfl⟩ : ∃ D : Nat, d = (D : Int) := ⟨d.toNat, by omega⟩
    have := append_copy v base x N D out w ho hbw hl (by omega) (by omega) (by omega) (by omega)
    unfold tellX
    rw [if_neg (by show ¬ (N : Int) = 0; omega)]
    exact this
def ExpP (w : World) (m : Int) (l : List Tok) (e : Ending) (w' : World) : Prop :=
  Below w.heap.size w w' ∧ ((∃ o v, expX m l [] = .ok o ∧ o.length ≤ 100000 ∧ w'.ownsRow w.heap.size 5 1 v o.length (cellsOf o) ∧ e = .returned (.tuple #[v, .int .i64 0])) ∨
    (∃ c : Nat, expX m l [] = .error c ∧ e = .returned (.tuple #[.slice none 0 0, .int .i64 (c : Int)])))
theorem cells3 {w w' : World} {B : Nat} {t : Tok} (hb : Below B (w.alloc (.cells #[.int .u8 (t.lit.toNat : Int), .int .i64 t.len, .int .i64 t.dist] 31)) w') (hB : w.heap.size < B) :
    w'.cell? ⟨w.heap.size, 0, none⟩ = some (.int .u8 (t.lit.toNat : Int)) ∧ w'.cell? ⟨w.heap.size, 1, none⟩ = some (.int .i64 t.len) ∧ w'.cell? ⟨w.heap.size, 2, none⟩ = some (.int .i64 t.dist) := by
  have h := (hb.block w.heap.size hB).trans (show (w.alloc (.cells #[.int .u8 (t.lit.toNat : Int), .int .i64 t.len, .int .i64 t.dist] 31)).heap[w.heap.size]? = some (.cells #[.int .u8 (t.lit.toNat : Int), .int .i64 t.len, .int .i64 t.dist] 31 (0, 0)) from Array.getElem?_push_size)
  refine ⟨?_, ?_, ?_⟩ <;> simp [World.cell?, h]
set_option maxHeartbeats 4000000 in
theorem expand_any (a : Option Addr) (len cap : Nat) (m : Int) (l : List Tok) (w : World) (hl : l.length = len) (hlen : len ≤ 4000) (hm : m ≤ 100000) (h : Toks w w.heap.size a l) :
    Calls Try.prog 7 #[.slice a len cap, .int .i64 m] w (ExpP w m l) := by
  obtain ⟨X, hX⟩ : ∃ X, X = expX m l [] := ⟨_, rfl⟩
  have HX := Lib.hid hX
  have H := Lib.hid h
  have HL := Lib.hid hl
  have HM := Lib.hid hm
  have hown0 : w.ownsRow w.heap.size 5 1 (.slice none 0 0) ([] : List UInt8).length (cellsOf []) := ⟨rfl, .inl ⟨rfl, rfl⟩⟩
  have HOW0 := Lib.hid hown0
  clear hX h hl hown0 hm
  go_enter Try.func7, Try.ntmps7
  go_wp2_with fail
  go_loopw [6, 12] (fun s i wr => ∃ (k : Nat) (out : List UInt8) (v : Value), k ≤ len ∧ i = .int .i64 (k : Int) ∧ s = v ∧ Hid (wr.ownsRow w.heap.size 5 1 v out.length (cellsOf out)) ∧ Hid (expX m (l.drop k) out = X) ∧ out.length ≤ 100000 ∧ Hid (Below w.heap.size w wr)) (fun _ i _ => len - (intOf i).toNat)
  case atStart => exact ⟨0, [], _, by omega, rfl, rfl, HOW0, Lib.hid (by rw [List.drop_zero]; exact HX.out.symm), by simp, Lib.hid (Below.refl _ _)⟩
  case round =>
    obtain ⟨k, out, s, hk, rfl, hsv, HOW, HRT, hol, HB⟩ := hrel
    have hsv2 := hsv.symm
    subst hsv2
    clear hsv HOW0
    by_cases hlt : k < len
    · have ql : decide ((k : Int) < (len : Int)) = true := by simpa using hlt
      have i1 : (0 : Int) ≤ (k : Int) := by omega
      have i2 : (k : Int) < (len : Int) := by omega
      have hkl : k < l.length := by rw [HL.out]; exact hlt
      obtain ⟨b, off, rfl, hb, hc⟩ := H.out.2 (by omega)
      obtain ⟨c0, c1, c2⟩ := (hc k hkl).below HB.out hb
      have hdr : l.drop k = l[k] :: l.drop (k + 1) := List.drop_eq_getElem_cons hkl
      obtain ⟨tb1, tb2, tb3, tb4⟩ := H.out.1 _ (List.getElem_mem hkl)
      have hrt := HRT.out
      rw [hdr] at hrt
      generalize l[k] = t at c0 c1 c2 hrt tb1 tb2 tb3 tb4
      have hba : Below w.heap.size w (wr.alloc (.cells #[.int .u8 (t.lit.toNat : Int), .int .i64 t.len, .int .i64 t.dist] 31)) := HB.out.alloc HB.out.size _
      have hbb : Below wr.heap.size wr (wr.alloc (.cells #[.int .u8 (t.lit.toNat : Int), .int .i64 t.len, .int .i64 t.dist] 31)) := (Below.refl _ wr).alloc (Nat.le_refl _) _
      have hza : (wr.alloc (.cells #[.int .u8 (t.lit.toNat : Int), .int .i64 t.len, .int .i64 t.dist] 31)).heap.size = wr.heap.size + 1 := by simp
      have hsz := HB.out.size
      obtain ⟨s1, hs1⟩ := (⟨_, rfl⟩ : ∃ s1 : Nat, s1 = out.length)
      obtain ⟨q, c, rfl, hq1, hq2, hq3, hq4⟩ := own_shape HOW.out (by rfl)
      have HBA := Lib.hid hba
      have HBB := Lib.hid hbb
      have HZA := Lib.hid hza
      have HRT2 := Lib.hid hrt
      have HF := Lib.hid (fun W => fault_any t out.length W)
      have HS := Lib.hid (fun W => size_any t W)
      unfold tokV at HF HS
      have HSZ := Lib.hid hsz
      clear hc hdr hrt hba hbb hza hsz hq4 hs1 s1
      go_wp2_with fail
      refine (HF.out _).mono ?_
      rintro e w2 ⟨rfl, hb2⟩
      rw [HZA.out] at hb2
      have HB2 := Lib.hid (HBA.out.trans (hb2.mono (by have := HSZ.out; omega)))
      have HC2 := Lib.hid (hb2.mono (show wr.heap.size + 1 ≤ wr.heap.size + 1 from Nat.le_refl _))
      have HZ2 := Lib.hid hb2.size
      clear hb2
      rcases fault_is t out.length with hf | hf | hf
      · rw [hf]
        obtain ⟨d0, d1, d2⟩ := cells3 HC2.out (by omega)
        have HFT := Lib.hid hf
        clear c0 c1 c2 hf
        go_wp2_with fail
        refine (HS.out _).mono ?_
        rintro e w3 ⟨rfl, hb3⟩
        have hz2 : wr.heap.size + 1 ≤ w2.heap.size := by have := HZ2.out; rw [HZA.out] at this; exact this
        have hz3 := hb3.size
        have HB3 := Lib.hid (HB2.out.trans (hb3.mono (by have := HSZ.out; omega)))
        have HC3 := Lib.hid (HC2.out.trans (hb3.mono hz2))
        have HWR3 := Lib.hid (HBB.out.trans (HC3.out.mono (by omega)))
        obtain ⟨e0, e1, e2⟩ := cells3 HC3.out (by omega)
        have HTL := Lib.hid (tell_length HFT.out)
        have HLE := Lib.hid (fault_ok HFT.out)
        have hmx : max t.len 1 ≤ 258 := by rcases HLE.out with h | h <;> omega
        have hmx1 : 1 ≤ max t.len 1 := by omega
        clear d0 d1 d2 hb3
        obtain ⟨z, hz⟩ : ∃ z, z = max t.len 1 := ⟨_, rfl⟩
        rw [← hz] at hmx hmx1 ⊢
        by_cases hfull : m < (out.length : Int) + z
        · have qf : decide (m < (out.length : Int) + z) = true := by simpa using hfull
          have HRES : Hid (ExpP w m l (.returned (.tuple #[.slice none 0 0, .int .i64 8])) w3) := Lib.hid ⟨HB3.out, .inr ⟨8, by
            rw [← HX.out, ← HRT2.out]
            refine exp_err ?_
            rw [step_good HFT.out, if_pos (by rw [← hz]; exact hfull)], rfl⟩⟩
          clear hfull hz hz2 hz3
          go_wp2_with fail
          go_ret2
          exact HRES.out
        · have qf : decide (m < (out.length : Int) + z) = false := by simpa using hfull
          have HRT3 : Hid (expX m (l.drop (k + 1)) (tellX t out) = X) := Lib.hid (by
            rw [← HRT2.out]
            refine (exp_ok ?_).symm
            rw [step_good HFT.out, if_neg (by rw [← hz]; exact hfull)])
          have hol3 : (tellX t out).length ≤ 100000 := by
            have h1 := HTL.out
            rw [← hz] at h1
            have := HM.out
            omega
          have HAP := Lib.hid (append_any _ w.heap.size t out w3 (own_below HOW.out HWR3.out) HB3.out.size hol HFT.out)
          unfold tokV at HAP
          clear hfull hz hz2 hz3
          go_wp2_with fail
          refine HAP.out.mono ?_
          rintro e w4 ⟨v4, rfl, ho4, hb4⟩
          have HO4 := Lib.hid ho4
          have HB4 := Lib.hid (HB3.out.trans hb4)
          clear ho4 hb4
          go_wp2_with fail
          go_roundw
          case rel => exact ⟨k + 1, tellX t out, _, by omega, by first | rfl | (push_cast; rfl), rfl, HO4, HRT3, hol3, HB4⟩
          case measure => simp [intOf]; omega
      · have HRES : Hid (ExpP w m l (.returned (.tuple #[.slice none 0 0, .int .i64 1])) w2) := Lib.hid ⟨HB2.out, .inr ⟨1, by
          rw [← HX.out, ← HRT2.out]
          refine exp_err ?_
          rw [step_bad (by omega), hf], rfl⟩⟩
        rw [hf]
        clear hf c0 c1 c2
        go_wp2_with fail
        go_ret2
        exact HRES.out
      · have HRES : Hid (ExpP w m l (.returned (.tuple #[.slice none 0 0, .int .i64 3])) w2) := Lib.hid ⟨HB2.out, .inr ⟨3, by
          rw [← HX.out, ← HRT2.out]
          refine exp_err ?_
          rw [step_bad (by omega), hf], rfl⟩⟩
        rw [hf]
        clear hf c0 c1 c2
        go_wp2_with fail
        go_ret2
        exact HRES.out
    · have hkn : k = len := by omega
      have ql : decide ((k : Int) < (len : Int)) = false := by simp; omega
      have HRES : Hid (ExpP w m l (.returned (.tuple #[s, .int .i64 0])) wr) := Lib.hid ⟨HB.out, .inl ⟨out, s, by
        have := HRT.out
        rw [hkn, ← HL.out, List.drop_length] at this
        rw [← HX.out, ← this]
        rfl, hol, HOW.out, rfl⟩⟩
      clear hkn
      go_wp2_with fail
      go_ret2
      exact HRES.out
end Go.Proofs.Ytboknaakcbjkiaa.Lzt
