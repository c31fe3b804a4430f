/- IiB: merged. -/
import Derived.Test.YtkkfkmoikcmhoaaGreatPbe
import Derived.Test.YtkkfkmoikcmhoaaGreatPbf
set_option linter.unusedVariables false
set_option linter.unusedSimpArgs false
namespace Go.Proofs.YtkkfkmoikcmhoaaGreat.Inf
open Go.RowKit Oct Bit Hf
set_option maxRecDepth 100000
theorem Stt.putt {w wr : World} {v0 v : Value} {g tt : Nat} {L : List Bool} {most a : Nat} {out : List UInt8} (h : Stt w v0 g L most a v out wr) (ht : g + 1 < tt) (hs : ∀ k, v.ownBlock = some k → k ≠ tt) (u0 u1 u2 u3 : Value) :
  Stt w v0 g L most a v out (put4 wr tt u0 u1 u2 u3) where
 b := h.b.far (by omega) _ _ _ _
 r := h.r.far (by omega) _ _ _ _
 own := Y4b h.own hs _ _ _ _
 sep := h.sep
 on := Y4v h.on (by have := h.hg; omega) _ _ _ _
 fr := h.fr
 hg := h.hg
 le := h.le
def CpS (w : World) (v0 : Value) (g : Nat) (L : List Bool) (most a : Nat) (X : List UInt8) (D N j n : Nat) (wr : World) : Prop :=
 ∃ v out, Stt w v0 g L most a v out wr ∧ Y2e out D (N - j) = X ∧ out.length = n
theorem Stt.mkL {w wr : World} {v0 v : Value} {g : Nat} {L : List Bool} {most a n D N : Nat} {out : List UInt8} (h : Stt w v0 g L most a v out wr) (hn : out.length = n) : CpS w v0 g L most a (Y2e out D N) D N 0 (n + 0) wr :=
 ⟨v, out, h, rfl, by omega⟩
def BlkI (w : World) (v0 : Value) (g : Nat) (A B : List (List Bool)) (L : List Bool) (most : Nat) (X : R (List UInt8)) (wr : World) : Prop :=
 ∃ a v out, Stt w v0 g L most a v out wr ∧ out.length ≤ most ∧ Y1d A B L most a out = X
set_option maxHeartbeats 8000000 in
theorem Ych (L : List Bool) (a most : Nat) (q : Option Addr) (n cap : Nat) (out : List UInt8) (p r : Option Addr) (nA cA nB cB : Nat) (A B : List (List Bool)) (w : World) (ha : a ≤ L.length) (hl : L.length ≤ 24000) (hown : w.ownsRow 0 5 1 (.slice q n cap) n (cellsOf out)) (hn : out.length = n) (hm : n ≤ most) (hmost : most ≤ 20000)
  (hA : ∀ V, Only (fun k => (Value.slice q n cap).ownBlock = some k) w V → VRow V V.heap.size p (strs (Y3f A))) (hB : ∀ V, Only (fun k => (Value.slice q n cap).ownBlock = some k) w V → VRow V V.heap.size r (strs (Y3f B)))
  (hnA : A.length = nA) (hnB : B.length = nB) (hA1 : 1 ≤ nA ∧ nA ≤ 300) (hB1 : 1 ≤ nB ∧ nB ≤ 300) (hA3 : ∀ m ∈ A, m.length ≤ 30) (hB3 : ∀ m ∈ B, m.length ≤ 30) :
  Calls Tryz.prog 39 #[.agg #[.string (ds L), .int .i64 (a : Int), .slice q n cap, .int .i64 (most : Int)], .slice p nA cA, .slice r nB cB] w (StP w (.slice q n cap) L most (Y1d A B L most a out)) := by
 obtain ⟨ib0, hib, hbz0, hbz1, hbz2⟩ := info_parts Tryz.infoByte
 obtain ⟨X, hX⟩ : ∃ X, X = Y1d A B L most a out := ⟨_, rfl⟩
 rw [← hX]
 have hsz := Y0w L
 have HN := Lib.hid hn
 have HX := Lib.hid hX
 have HA := Lib.hid hA
 have HB := Lib.hid hB
 have HNA := Lib.hid hnA
 have HNB := Lib.hid hnB
 have HA3 := Lib.hid hA3
 have HB3 := Lib.hid hB3
 have HA1 := Lib.hid hA1
 have HB1 := Lib.hid hB1
 have HS0 := Lib.hid (Stt.start (most := most) hown hn ha)
 clear hX hown hn hA hB hnA hnB hA3 hB3 hA1 hB1
 go_enter Tryz.func39, Tryz.ntmps39
 go_wp2_with fail
 obtain ⟨g, hg⟩ : ∃ g, w.heap.size = g := ⟨_, rfl⟩
 rw [hg] at HS0 ⊢
 clear hg
 go_loopw [8, 9, 10, 11, 12, 13, 14, 15] (fun _ _ _ _ _ _ _ _ wr => Hid (BlkI w (.slice q n cap) g A B L most X wr)) (fun _ _ _ _ _ _ _ _ wr => L.length + 1 - plc wr g)
 case atStart => exact Lib.hid ⟨a, _, out, HS0.out, by rw [HN.out]; exact hm, HX.out.symm⟩
 case round =>
  obtain ⟨a3, v3, out3, hS, hom, hE⟩ := hrel.out
  have HS := Lib.hid hS
  obtain ⟨q3, c3, rfl, hq3, hnc3, hcm3, _⟩ := Y39 HS.out.own rfl
  unfold maxLen at hcm3
  obtain ⟨len3, hl3⟩ : ∃ len3, out3.length = len3 := ⟨_, rfl⟩
  rw [hl3] at hnc3 hom HS
  have HL3 := Lib.hid hl3
  have hone := Yl8 A B L most a3 out3 HS.out.le
  rw [hE] at hone
  have HPL := Lib.hid (Yb3 HS.out.b)
  obtain ⟨p0, p1, p2, p3⟩ := HS.out.b.cells
  obtain ⟨f0, f1, f2, f3⟩ := HS.out.b.free
  clear hl3 hq3 hS hE hrel
  rcases hnx : Y1p A L a3 with c | ⟨v, b⟩
  ·rw [hnx] at hone
   have HX2 : Hid (X = .error c) := Lib.hid hone
   have HNX := Lib.hid (Yb7 p nA cA A L a3 c most q3 len3 c3 _ (HA.out _ HS.out.on) HNA.out HA1.out.1 HA1.out.2 HA3.out HS.out.le (by omega) hnx)
   clear hone hnx
   go_wp2_with fail
   refine HNX.out.mono ?_
   rintro e w6 ⟨hc, ⟨b, rfl⟩, hb6⟩
   have HS6 := Lib.hid (fun O : Obj => HS.out.keep (hb6.trans (((Below.refl _ w6).alloc (Nat.le_refl _) O).mono hb6.size)))
   clear p0 p1 p2 p3 f0 f1 f2 f3 hb6
   obtain ⟨t0, t1, t2, t3⟩ := (HS6.out (.cells #[.string (ds L), .int .i64 (b : Int), .slice q3 len3 c3, .int .i64 (most : Int)] 69)).r.cells
   obtain ⟨u0, u1, u2, u3⟩ := (HS6.out (.cells #[.string (ds L), .int .i64 (b : Int), .slice q3 len3 c3, .int .i64 (most : Int)] 69)).r.free
   obtain ⟨d1, d2, d3, d4⟩ := (HS6.out (.cells #[.string (ds L), .int .i64 (b : Int), .slice q3 len3 c3, .int .i64 (most : Int)] 69)).done2 HL3.out b
   have D1 := Lib.hid d1
   have D2 := Lib.hid d2
   have D4 := Lib.hid d4
   clear d1 d2 d3 d4
   rcases hc with rfl | rfl
   all_goals
    go_wp2_with fail
    refine bodyPost_ret (Y0g rfl _ _ (g + 1) _ _ _ _ (0, 0) rfl D4.out) rfl ?_
    exact ⟨b, q3, len3, c3, D1.out, D2.out, .inr ⟨_, HX2.out, by decide, by decide, rfl⟩⟩
  ·rw [hnx] at hone
   obtain ⟨hbL, hab, hvA⟩ := Ydm hnx
   have HNX := Lib.hid (Ye4 p nA cA A L a3 v b most q3 len3 c3 _ (HA.out _ HS.out.on) HNA.out HA1.out.1 HA1.out.2 HA3.out HS.out.le (by omega) hnx)
   have hv3 : v < 300 := by have := HA1.out.2; have := HNA.out; omega
   have HONE : Hid (X = if v = 256 then .ok (out3, b) else if v < 256 then (if most ≤ out3.length then .error 8 else Y1d A B L most b (out3 ++ [UInt8.ofNat v])) else (Yhe B L most (v - 257) b out3).then fun o a => Y1d A B L most a o) := Lib.hid hone
   clear hone hnx hvA
   go_upto_region 4 with (go_at_call 65; refine HNX.out.mono ?_; rintro e w6 ⟨rfl, hb6⟩; have HB6 := Lib.hid hb6; clear hb6)
   have HS6 := Lib.hid (HS.out.keep (HB6.out.trans (((Below.refl _ w6).alloc (Nat.le_refl _) (.cells #[.string (ds L), .int .i64 (b : Int), .slice q3 len3 c3, .int .i64 (most : Int)] 69)).mono HB6.out.size)))
   have HT6 : Hid (Bx (w6.alloc (.cells #[.string (ds L), .int .i64 (b : Int), .slice q3 len3 c3, .int .i64 (most : Int)] 69)) w6.heap.size (.string (ds L)) (.int .i64 (b : Int)) (.slice q3 len3 c3) (.int .i64 (most : Int))) := Lib.hid (heap_alloc_new _ _)
   have hgt : g + 1 < w6.heap.size := Nat.lt_of_lt_of_le HS.out.lt2 HB6.out.size
   have hsp : ∀ k, (Value.slice q3 len3 c3).ownBlock = some k → k ≠ w6.heap.size := fun k hk => by
    have h1 := (HS.out.own.lt k hk).2
    have h2 := HB6.out.size
    omega
   clear p0 p1 p2 p3 f0 f1 f2 f3 HB6
   obtain ⟨t0, t1, t2, t3⟩ := HS6.out.b.cells
   obtain ⟨u0, u1, u2, u3⟩ := HS6.out.b.free
   go_upto_region 5 with (fail)
   have HS7 := Lib.hid (HS6.out.put b hbL)
   have HT7 := Lib.hid (HT6.out.far (m := g) (by omega) (.string (ds L)) (.int .i64 (b : Int)) (.slice q3 len3 c3) (.int .i64 (most : Int)))
   obtain ⟨tt, htt⟩ : ∃ tt, w6.heap.size = tt := ⟨_, rfl⟩
   obtain ⟨w7, hw7⟩ : ∃ w7, w7 = put4 (w6.alloc (.cells #[.string (ds L), .int .i64 (b : Int), .slice q3 len3 c3, .int .i64 (most : Int)] 69)) g (.string (ds L)) (.int .i64 (b : Int)) (.slice q3 len3 c3) (.int .i64 (most : Int)) := ⟨_, rfl⟩
   rw [← hw7] at HS7 HT7
   unfold put4 at hw7
   rw [← hw7]
   rw [htt] at HT7 hgt hsp ⊢
   have HSP := Lib.hid hsp
   clear hsp
   clear hw7 htt t0 t1 t2 t3 u0 u1 u2 u3 HS6 HT6 HNX
   obtain ⟨p0, p1, p2, p3⟩ := HS7.out.b.cells
   obtain ⟨f0, f1, f2, f3⟩ := HS7.out.b.free
   obtain ⟨t0, t1, t2, t3⟩ := HS7.out.r.cells
   obtain ⟨u0, u1, u2, u3⟩ := HS7.out.r.free
   have v0' : (0 : Int) ≤ (v : Int) := by omega
   by_cases h256 : v = 256
   ·subst h256
    have HX2 : Hid (X = .ok (out3, b)) := Lib.hid (by rw [HONE.out, if_pos rfl])
    go_wp2_with fail
    obtain ⟨d1, d2, d3, d4⟩ := HS7.out.done HL3.out
    refine bodyPost_ret (Y0g rfl _ _ (g + 1) _ _ _ _ (0, 0) rfl d4) rfl ?_
    exact ⟨b, q3, len3, c3, d1, d2, .inl ⟨out3, HX2.out, HL3.out, hom, d3, rfl⟩⟩
   ·have e1 : ((v : Int) == 256) = false := by simp; omega
    by_cases hlt : v < 256
    ·have e2 : decide ((v : Int) < 256) = true := by simp; omega
     have e3 : decide (v < 256) = true := by simp; omega
     have x2 : (v : Int) % 256 = (v : Int) := by omega
     have x1 : (v : Int) < 256 := by omega
     by_cases hfull : most ≤ len3
     ·have qf : decide ((most : Int) ≤ (len3 : Int)) = true := by simpa using hfull
      have qfn : decide (most ≤ len3) = true := by simpa using hfull
      have HX2 : Hid (X = .error 8) := Lib.hid (by rw [HONE.out, if_neg h256, if_pos hlt, HL3.out, if_pos hfull])
      clear hfull
      go_wp2_with fail
      obtain ⟨d1, d2, d3, d4⟩ := HS7.out.done HL3.out
      refine bodyPost_ret (Y0g rfl _ _ (g + 1) _ _ _ _ (0, 0) rfl d4) rfl ?_
      exact ⟨b, q3, len3, c3, d1, d2, .inr ⟨8, HX2.out, by decide, by decide, rfl⟩⟩
     ·have qf : decide ((most : Int) ≤ (len3 : Int)) = false := by simp; omega
      have qfn : decide (most ≤ len3) = false := by simp; omega
      have HX2 : Hid (Y1d A B L most b (out3 ++ [UInt8.ofNat v]) = X) := Lib.hid (by rw [HONE.out, if_neg h256, if_pos hlt, HL3.out, if_neg hfull])
      have hlen3 : len3 + 1 ≤ most := by omega
      have hyz : ((UInt8.ofNat v).toNat : Int) = (v : Int) := by rw [UInt8.toNat_ofNat']; omega
      have HYZ := Lib.hid hyz
      have hl100 : len3 ≤ 100000 := by omega
      have HL100 := Lib.hid hl100
      have HFT : Hid (∀ V, Only (fun k => (Value.slice q3 len3 c3).ownBlock = some k) (w7.alloc (.cells #[.int .u8 (v : Int)] 5)) V → Bx V g (.string (ds L)) (.int .i64 (b : Int)) (.slice q3 len3 c3) (.int .i64 (most : Int))) := Lib.hid fun V hV =>
       (HS7.out.b.below ((Below.refl _ _).alloc (Nat.le_refl _) _)).only hV (fun e => (HS7.out.sep _ e).1 rfl)
      have HAB : Hid (a3 < b ∧ b ≤ L.length) := Lib.hid ⟨hab, hbL⟩
      clear hfull hyz hl100 hlt h256 HONE HT7 t0 t1 t2 t3 u0 u1 u2 u3 hgt hab hbL
      go_wp2_with (at_builtin; refine Ynz (W := w7) rfl _ _ rfl (.slice q3 len3 c3) out3 (UInt8.ofNat v) (v : Int) HYZ.out rfl HS7.out.own w7.heap.size rfl rfl len3 HL3.out HL100.out ?_; intro g9 c9 w9 hc91 hc92 hown9 hon9 hat9; have HOWN9 := Lib.hid hown9; have HON9 := Lib.hid hon9; have HAT9 := Lib.hid hat9; clear p0 p1 p2 p3 f0 f1 f2 f3; have hbg := HFT.out _ hon9; obtain ⟨p0, p1, p2, p3⟩ := hbg.cells; obtain ⟨f0, f1, f2, f3⟩ := hbg.free; clear hown9 hon9 hat9 hbg)
      have hgr := HS7.out.grow1 HOWN9.out HON9.out HAT9.out
      rw [HL3.out] at hgr
      have hpl := Yb3 hgr.b
      refine ⟨Lib.hid ⟨b, _, _, hgr, by rw [List.length_append, HL3.out]; exact hlen3, HX2.out⟩, ?_⟩
      rw [hpl, HPL.out]
      have := HAB.out
      omega
    ·have e2 : decide ((v : Int) < 256) = false := by simp; omega
     have e3 : decide (v < 256) = false := by simp; omega
     obtain ⟨i, hi⟩ : ∃ i, v = 257 + i := ⟨v - 257, by omega⟩
     have hvi : (v : Int) - 257 = (i : Int) := by omega
     have HXC : Hid (X = (Yhe B L most i b out3).then fun o a => Y1d A B L most a o) := Lib.hid (by rw [HONE.out, if_neg h256, if_neg hlt, show v - 257 = i from by omega])
     have HAB : Hid (a3 < b ∧ b ≤ L.length) := Lib.hid ⟨hab, hbL⟩
     have i0 : (0 : Int) ≤ (i : Int) := by omega
     clear h256 hlt HONE hab hbL hi
     by_cases hi29 : i < 29
     ·rcases hnm : Y1k L b ((extras false).getD i 0) with c | ⟨m, b2⟩
      ·obtain ⟨rfl, _⟩ := Y56 hnm
       have HX2 : Hid (X = .error 2) := Lib.hid (by
        rw [HXC.out]
        unfold Yhe Y1r
        rw [if_pos (by show i < 29; exact hi29), hnm]
        rfl)
       have HNF := Lib.hid (Yb9 false L b i most 2 q3 len3 c3 w7 HAB.out.2 (by omega) (by show i < 29; exact hi29) hnm)
       obtain ⟨o0, o1, o2, o3⟩ := HT7.out.cells
       clear hi29 hnm
       go_wp2_with fail
       refine HNF.out.mono ?_
       rintro e w8 ⟨⟨nn, rfl⟩, hb8⟩
       have HS8 := Lib.hid (HS7.out.keep hb8)
       have HT8 := Lib.hid (HT7.out.below hb8)
       clear p0 p1 p2 p3 f0 f1 f2 f3 t0 t1 t2 t3 u0 u1 u2 u3 o0 o1 o2 o3 hb8
       obtain ⟨o0, o1, o2, o3⟩ := HT8.out.cells
       obtain ⟨y0, y1, y2, y3⟩ := HT8.out.free
       obtain ⟨t0, t1, t2, t3⟩ := HS8.out.r.cells
       obtain ⟨u0, u1, u2, u3⟩ := HS8.out.r.free
       have z1 : ¬ (tt = g + 1) := by omega
       have z2 : ¬ (g + 1 = tt) := by omega
       go_wp2_with fail
       obtain ⟨d1, d2, d3, d4⟩ := (HS8.out.putt (tt := tt) hgt HSP.out (.string (ds L)) (.int .i64 (b : Int)) (.slice q3 len3 c3) (.int .i64 (most : Int))).done2 HL3.out b
       refine bodyPost_ret (Y0g rfl _ _ (g + 1) _ _ _ _ (0, 0) rfl d4) rfl ?_
       exact ⟨b, q3, len3, c3, d1, d2, .inr ⟨2, HX2.out, by decide, by decide, rfl⟩⟩
      ·obtain ⟨N, hN⟩ : ∃ N, (froms false).getD i 0 + m = N := ⟨_, rfl⟩
       have hb2L := (Y1q hnm).2.2
       have HB12 : Hid (b ≤ b2) := Lib.hid (by have := (Y1q hnm).2.1; omega)
       have hNb : N ≤ 40000 := by
        have h0 := Y62 false i (by show i < 29; exact hi29)
        have h1 := (Y1q hnm).1
        have h2 : 2 ^ ((extras false).getD i 0) ≤ 2 ^ 13 := Nat.pow_le_pow_right (by decide) h0.2.2
        have h3 : 2 ^ 13 = 8192 := by decide
        omega
       have HXD : Hid (X = ((Y1p B L b2).then fun k a => (Y1r true L k a).then fun d a => if out3.length < d then .error 3 else if most < out3.length + N then .error 8 else .ok (Y2e out3 d N, a)).then fun o a => Y1d A B L most a o) := Lib.hid (by
        rw [HXC.out, ← hN]
        unfold Yhe
        conv => lhs; unfold Y1r
        rw [if_pos (by show i < 29; exact hi29), hnm]
        rfl)
       have HNF := Yci false L b i most m b2 q3 len3 c3 w7 (by omega) (by show i < 29; exact hi29) hnm
       rw [hN] at HNF
       have HNF := Lib.hid HNF
       obtain ⟨o0, o1, o2, o3⟩ := HT7.out.cells
       clear hi29 hnm HXC hN
       go_upto_region 14 with (go_at_call 66; refine HNF.out.mono ?_; rintro e w8 ⟨rfl, hb8⟩; have HS8 := Lib.hid (HS7.out.keep hb8); have HT8 := Lib.hid (HT7.out.below hb8); clear p0 p1 p2 p3 f0 f1 f2 f3 t0 t1 t2 t3 u0 u1 u2 u3 o0 o1 o2 o3 hb8; obtain ⟨o0, o1, o2, o3⟩ := HT8.out.cells; obtain ⟨y0, y1, y2, y3⟩ := HT8.out.free)
       clear o0 o1 o2 o3 y0 y1 y2 y3 HNF
       have HS9 := Lib.hid (HS8.out.putt (tt := tt) hgt HSP.out (.string (ds L)) (.int .i64 (b2 : Int)) (.slice q3 len3 c3) (.int .i64 (most : Int)))
       have HT9 := Lib.hid (HT8.out.put (.string (ds L)) (.int .i64 (b2 : Int)) (.slice q3 len3 c3) (.int .i64 (most : Int)))
       obtain ⟨w9, hw9⟩ : ∃ V, V = put4 w8 tt (.string (ds L)) (.int .i64 (b2 : Int)) (.slice q3 len3 c3) (.int .i64 (most : Int)) := ⟨_, rfl⟩
       rw [← hw9] at HS9 HT9
       unfold put4 at hw9
       rw [← hw9]
       clear hw9
       rcases hn2 : Y1p B L b2 with c | ⟨k, b3⟩
       ·have HX2 : Hid (X = .error c) := Lib.hid (by rw [HXD.out, hn2]; rfl)
        have HNY := Lib.hid (Yb7 r nB cB B L b2 c most q3 len3 c3 w9 (HB.out _ HS9.out.on) HNB.out HB1.out.1 HB1.out.2 HB3.out hb2L (by omega) hn2)
        clear hn2
        obtain ⟨o0, o1, o2, o3⟩ := HT9.out.cells
        go_wp2_with fail
        refine HNY.out.mono ?_
        rintro e w10 ⟨hc, ⟨bx, rfl⟩, hbx⟩
        have HSx := Lib.hid (HS9.out.keep hbx)
        have HTx := Lib.hid (HT9.out.below hbx)
        clear o0 o1 o2 o3 hbx
        obtain ⟨o0, o1, o2, o3⟩ := HTx.out.cells
        obtain ⟨y0, y1, y2, y3⟩ := HTx.out.free
        obtain ⟨t0, t1, t2, t3⟩ := HSx.out.r.cells
        obtain ⟨u0, u1, u2, u3⟩ := HSx.out.r.free
        have z1 : ¬ (tt = g + 1) := by omega
        have z2 : ¬ (g + 1 = tt) := by omega
        rcases hc with rfl | rfl
        all_goals
         go_wp2_with fail
         obtain ⟨d1, d2, d3, d4⟩ := (HSx.out.putt (tt := tt) hgt HSP.out (.string (ds L)) (.int .i64 (bx : Int)) (.slice q3 len3 c3) (.int .i64 (most : Int))).done2 HL3.out bx
         refine bodyPost_ret (Y0g rfl _ _ (g + 1) _ _ _ _ (0, 0) rfl d4) rfl ?_
         exact ⟨bx, q3, len3, c3, d1, d2, .inr ⟨_, HX2.out, by decide, by decide, rfl⟩⟩
       ·obtain ⟨hb3L, hb23, hkB⟩ := Ydm hn2
        have HXE : Hid (X = ((Y1r true L k b3).then fun d a => if out3.length < d then .error 3 else if most < out3.length + N then .error 8 else .ok (Y2e out3 d N, a)).then fun o a => Y1d A B L most a o) := Lib.hid (by rw [HXD.out, hn2]; rfl)
        have HNY := Lib.hid (Ye4 r nB cB B L b2 k b3 most q3 len3 c3 w9 (HB.out _ HS9.out.on) HNB.out HB1.out.1 HB1.out.2 HB3.out hb2L (by omega) hn2)
        clear hn2
        obtain ⟨o0, o1, o2, o3⟩ := HT9.out.cells
        go_upto_region 17 with (go_at_call 65; refine HNY.out.mono ?_; rintro e w10 ⟨rfl, hbx⟩; have HSx := Lib.hid (HS9.out.keep hbx); have HTx := Lib.hid (HT9.out.below hbx); clear o0 o1 o2 o3 hbx; obtain ⟨o0, o1, o2, o3⟩ := HTx.out.cells; obtain ⟨y0, y1, y2, y3⟩ := HTx.out.free)
        clear o0 o1 o2 o3 y0 y1 y2 y3 HNY
        have HS11 := Lib.hid (HSx.out.putt (tt := tt) hgt HSP.out (.string (ds L)) (.int .i64 (b3 : Int)) (.slice q3 len3 c3) (.int .i64 (most : Int)))
        have HT11 := Lib.hid (HTx.out.put (.string (ds L)) (.int .i64 (b3 : Int)) (.slice q3 len3 c3) (.int .i64 (most : Int)))
        obtain ⟨w11, hw11⟩ : ∃ V, V = put4 w10 tt (.string (ds L)) (.int .i64 (b3 : Int)) (.slice q3 len3 c3) (.int .i64 (most : Int)) := ⟨_, rfl⟩
        rw [← hw11] at HS11 HT11
        unfold put4 at hw11
        rw [← hw11]
        clear hw11
        have k0 : (0 : Int) ≤ (k : Int) := by omega
        by_cases hk30 : k < 30
        ·rcases hnd : Y1k L b3 ((extras true).getD k 0) with c | ⟨m2, b4⟩
         ·obtain ⟨rfl, _⟩ := Y56 hnd
          have HX2 : Hid (X = .error 2) := Lib.hid (by
           rw [HXE.out]
           unfold Y1r
           rw [if_pos (by show k < 30; exact hk30), hnd]
           rfl)
          have HNZ := Lib.hid (Yb9 true L b3 k most 2 q3 len3 c3 w11 hb3L (by omega) (by show k < 30; exact hk30) hnd)
          clear hk30 hnd
          obtain ⟨o0, o1, o2, o3⟩ := HT11.out.cells
          go_wp2_with fail
          refine HNZ.out.mono ?_
          rintro e w12 ⟨⟨nn, rfl⟩, hbx⟩
          have HSx := Lib.hid (HS11.out.keep hbx)
          have HTx := Lib.hid (HT11.out.below hbx)
          clear o0 o1 o2 o3 hbx
          obtain ⟨o0, o1, o2, o3⟩ := HTx.out.cells
          obtain ⟨y0, y1, y2, y3⟩ := HTx.out.free
          obtain ⟨t0, t1, t2, t3⟩ := HSx.out.r.cells
          obtain ⟨u0, u1, u2, u3⟩ := HSx.out.r.free
          have z1 : ¬ (tt = g + 1) := by omega
          have z2 : ¬ (g + 1 = tt) := by omega
          go_wp2_with fail
          obtain ⟨d1, d2, d3, d4⟩ := (HSx.out.putt (tt := tt) hgt HSP.out (.string (ds L)) (.int .i64 (b3 : Int)) (.slice q3 len3 c3) (.int .i64 (most : Int))).done2 HL3.out b3
          refine bodyPost_ret (Y0g rfl _ _ (g + 1) _ _ _ _ (0, 0) rfl d4) rfl ?_
          exact ⟨b3, q3, len3, c3, d1, d2, .inr ⟨_, HX2.out, by decide, by decide, rfl⟩⟩
         ·obtain ⟨D, hD⟩ : ∃ D, (froms true).getD k 0 + m2 = D := ⟨_, rfl⟩
          have hb4L := (Y1q hnd).2.2
          have hD1p : 1 ≤ D := by have := (Y62 true k (by show k < 30; exact hk30)).1; omega
          have HB34 : Hid (b3 ≤ b4) := Lib.hid (by have := (Y1q hnd).2.1; omega)
          have HXF : Hid (X = ((if out3.length < D then .error 3 else if most < out3.length + N then .error 8 else .ok (Y2e out3 D N, b4) : R (List UInt8))).then fun o a => Y1d A B L most a o) := Lib.hid (by
           rw [HXE.out, ← hD]
           unfold Y1r
           rw [if_pos (by show k < 30; exact hk30), hnd]
           rfl)
          have HNZ := Yci true L b3 k most m2 b4 q3 len3 c3 w11 (by omega) (by show k < 30; exact hk30) hnd
          rw [hD] at HNZ
          have HNZ := Lib.hid HNZ
          obtain ⟨o0, o1, o2, o3⟩ := HT11.out.cells
          clear hk30 hnd hD
          go_upto_region 20 with (go_at_call 66; refine HNZ.out.mono ?_; rintro e w12 ⟨rfl, hbx⟩; have HSy := Lib.hid (HS11.out.keep hbx); have HTy := Lib.hid (HT11.out.below hbx); clear o0 o1 o2 o3 hbx; obtain ⟨o0, o1, o2, o3⟩ := HTy.out.cells; obtain ⟨y0, y1, y2, y3⟩ := HTy.out.free)
          clear o0 o1 o2 o3 y0 y1 y2 y3 HNZ
          have HS13 := Lib.hid (HSy.out.putt (tt := tt) hgt HSP.out (.string (ds L)) (.int .i64 (b4 : Int)) (.slice q3 len3 c3) (.int .i64 (most : Int)))
          have HT13 := Lib.hid (HTy.out.put (.string (ds L)) (.int .i64 (b4 : Int)) (.slice q3 len3 c3) (.int .i64 (most : Int)))
          obtain ⟨w13, hw13⟩ : ∃ V, V = put4 w12 tt (.string (ds L)) (.int .i64 (b4 : Int)) (.slice q3 len3 c3) (.int .i64 (most : Int)) := ⟨_, rfl⟩
          rw [← hw13] at HS13 HT13
          unfold put4 at hw13
          rw [← hw13]
          clear hw13
          obtain ⟨o0, o1, o2, o3⟩ := HT13.out.cells
          obtain ⟨p0, p1, p2, p3⟩ := HS13.out.b.cells
          obtain ⟨f0, f1, f2, f3⟩ := HS13.out.b.free
          have z1 : ¬ (tt = g) := by omega
          have z2 : ¬ (g = tt) := by omega
          go_upto_region 21 with (fail)
          have HS14 := Lib.hid (HS13.out.put b4 hb4L)
          obtain ⟨w14, hw14⟩ : ∃ V, V = put4 w13 g (.string (ds L)) (.int .i64 (b4 : Int)) (.slice q3 len3 c3) (.int .i64 (most : Int)) := ⟨_, rfl⟩
          rw [← hw14] at HS14
          unfold put4 at hw14
          rw [← hw14]
          clear hw14 o0 o1 o2 o3 p0 p1 p2 p3 f0 f1 f2 f3 z1 z2
          obtain ⟨p0, p1, p2, p3⟩ := HS14.out.b.cells
          obtain ⟨f0, f1, f2, f3⟩ := HS14.out.b.free
          obtain ⟨t0, t1, t2, t3⟩ := HS14.out.r.cells
          obtain ⟨u0, u1, u2, u3⟩ := HS14.out.r.free
          have D0 : (0 : Int) ≤ (D : Int) := by omega
          have N0 : (0 : Int) ≤ (N : Int) := by omega
          by_cases hD1 : len3 < D
          ·have qd : decide ((len3 : Int) < (D : Int)) = true := by simpa using hD1
           have qdn : decide (len3 < D) = true := by simpa using hD1
           have HX2 : Hid (X = .error 3) := Lib.hid (by rw [HXF.out, HL3.out, if_pos hD1]; rfl)
           clear hD1
           go_wp2_with fail
           obtain ⟨d1, d2, d3, d4⟩ := HS14.out.done HL3.out
           refine bodyPost_ret (Y0g rfl _ _ (g + 1) _ _ _ _ (0, 0) rfl d4) rfl ?_
           exact ⟨b4, q3, len3, c3, d1, d2, .inr ⟨_, HX2.out, by decide, by decide, rfl⟩⟩
          ·have qd : decide ((len3 : Int) < (D : Int)) = false := by simp; omega
           have qdn : decide (len3 < D) = false := by simp; omega
           by_cases hm1 : most < len3 + N
           ·have qm : decide ((most : Int) < (len3 : Int) + (N : Int)) = true := by simp; omega
            have qmn : decide (most < len3 + N) = true := by simp; omega
            have HX2 : Hid (X = .error 8) := Lib.hid (by rw [HXF.out, HL3.out, if_neg hD1, if_pos hm1]; rfl)
            clear hD1 hm1
            go_wp2_with fail
            obtain ⟨d1, d2, d3, d4⟩ := HS14.out.done HL3.out
            refine bodyPost_ret (Y0g rfl _ _ (g + 1) _ _ _ _ (0, 0) rfl d4) rfl ?_
            exact ⟨b4, q3, len3, c3, d1, d2, .inr ⟨_, HX2.out, by decide, by decide, rfl⟩⟩
           ·have qm : decide ((most : Int) < (len3 : Int) + (N : Int)) = false := by simp; omega
            have qmn : decide (most < len3 + N) = false := by simp; omega
            have HX2 : Hid (Y1d A B L most b4 (Y2e out3 D N) = X) := Lib.hid (by rw [HXF.out, HL3.out, if_neg hD1, if_neg hm1]; rfl)
            have hDN : D ≤ len3 ∧ len3 + N ≤ most := ⟨by omega, by omega⟩
            clear hD1 hm1
            have HSL := Lib.hid (Stt.mkL HS14.out HL3.out (D := D) (N := N))
            clear t0 t1 t2 t3 u0 u1 u2 u3 HL3 HS14 HT13 HS13 HTy HSy HS11 HT11 HTx HSx HT9 HS9 HT8 HS8 HT7 HS7
            go_wp2_with fail
            go_loopw [14, 15] (fun i _ wr => ∃ j : Nat, j ≤ N ∧ i = .int .i64 (j : Int) ∧ Hid (CpS w (.slice q n cap) g L most b4 (Y2e out3 D N) D N j (len3 + j) wr)) (fun i _ _ => N - (intOf i).toNat)
            case atStart => exact ⟨0, by omega, rfl, HSL.out⟩
            case round =>
             obtain ⟨j, hj, rfl, HC⟩ := hrel
             obtain ⟨v4, out4, hS4, hcp, hl4⟩ := HC.out
             clear p0 p1 p2 p3 f0 f1 f2 f3 qd qdn qm qmn HC HSL
             by_cases hjn : j < N
             ·have qj : decide ((j : Int) < (N : Int)) = true := by simpa using hjn
              have qjn : decide (j < N) = true := by simpa using hjn
              obtain ⟨q4, c4, rfl, hq4, hnc4, hcm4, hrow4⟩ := Y39 hS4.own rfl
              obtain ⟨g4, cc4, hsl4, _, _, _, _, hrow4⟩ := Y7t hS4.own (fun h => by
               injection h with _ h _
               omega)
              injection hsl4 with hq hll hcc
              subst hq
              subst hcc
              obtain ⟨gx, offx, ee, hg4, hcells4⟩ := hrow4 (by omega)
              injection ee with ee
              injection ee with e1 e2
              subst e1 e2
              unfold maxLen at hcm4
              obtain ⟨z, hz⟩ : ∃ z, out4.length - D = z := ⟨_, rfl⟩
              have hzl : z < out4.length := by omega
              obtain ⟨x, hx⟩ : ∃ x, out4[z] = x := ⟨_, rfl⟩
              have hzi : (out4.length : Int) - (D : Int) = (z : Int) := by omega
              obtain ⟨wd, hwd⟩ : ∃ wd, wd = (wr.alloc (.cells #[.int .u8 (x.toNat : Int)] 5)).drew := ⟨_, rfl⟩
              have hod : Only (fun _ => False) wr wd := by rw [hwd]; exact (Only.of_below ((Below.refl _ wr).alloc (Nat.le_refl _) _)).trans (Only.drawn _ ⟨1, rfl⟩)
              have hsz2 : wd.heap.size = wr.heap.size + 1 := by rw [hwd]; exact Array.size_push _
              have hS5 := hS4.keepO hod
              have q0 : wr.cell? ⟨g, 2, none⟩ = some (.slice (some ⟨g4, 0, none⟩) out4.length c4) := hS4.b.cells.2.2.1
              have q1 : wr.drew.cell? ⟨g, 2, none⟩ = some (.slice (some ⟨g4, 0, none⟩) out4.length c4) := hS4.b.cells.2.2.1
              have q2 : wr.drew.cell? ⟨g4, z, none⟩ = some (.int .u8 (x.toNat : Int)) := by
               have := hcells4 z hzl
               rw [hx, Nat.zero_add] at this
               exact this
              have q3 : (wr.alloc (.cells #[.int .u8 (x.toNat : Int)] 5)).drew.cell? ⟨g, 2, none⟩ = some (.slice (some ⟨g4, 0, none⟩) out4.length c4) := by
               rw [← hwd]; exact hS5.b.cells.2.2.1
              have hnw : ∀ i u, (cellsOf [x])[i]? = some u → wd.cell? ((⟨wr.heap.size, 0, none⟩ : Addr).add i) = some u := by rw [hwd]; exact news8 wr x
              have HNEXT : Hid (Y2e (out4 ++ [x]) D (N - (j + 1)) = Y2e out3 D N) := Lib.hid (by
               rw [← hcp, show N - j = (N - (j + 1)) + 1 from by omega, Y2e, hz]
               congr 3
               rw [List.getD_eq_getElem?_getD, List.getElem?_eq_getElem hzl, hx]
               rfl)
              have HGROW := Lib.hid (fun (g1 cap1 : Nat) (w1 : World) h1 h2 h3 => hS4.growD (g' := g1) (cap' := cap1) (w6 := w1) (y := x) hod hsz2 h1 h2 h3)
              have HOWN5 := Lib.hid hS5.own
              have HNW := Lib.hid hnw
              have HWD := Lib.hid hwd
              have HSZ := Lib.hid hsz2
              have hxb : x.toNat < 256 := x.toNat_lt
              have hzn0 : (0 : Int) ≤ (z : Int) := by omega
              have hzn1 : (z : Int) < (out4.length : Int) := by omega
              have hwz : IntKind.i64.wrap (z : Int) = (z : Int) := IntWalk.i64_in _ (by omega)
              have hkm : out4.length + 1 ≤ 300000 := by omega
              have HL4 := Lib.hid hl4
              clear hl4 hrow4 hcells4 hnw hx hS4 hS5 hod hwd hsz2 hz hcp hq4 hll
              go_wp2_with fail
              go_region_law (rw [← HWD.out]; refine step_append_lies _ rfl _ _ 22 rfl 0 5 ib0 (.int .u8 0) 1 1 Tryz.underlying22 hib hbz0 hbz1 hbz2 rfl (by decide) (.slice (some ⟨g4, 0, none⟩) out4.length c4) out4.length (cellsOf out4) (by simp [Act.eval, Act.put]) HOWN5.out ⟨wr.heap.size, 0, none⟩ 1 1 (cellsOf [x]) (by simp [Act.eval, Act.put]) rfl HNW.out Y3q (by omega) (by unfold maxLen; omega) (by omega) (Nat.zero_le _) (wr.heap.size + 1) HSZ.out ?_; intro g1 cap1 w1 hown1 hgrow1 hat1 hlt1; have HON1 := Lib.hid (HGROW.out g1 cap1 w1 hown1 hgrow1 hat1); have hfz1 := HON1.out.1.1; have hcl1 := HON1.out.1.2)
              all_goals
               clear hown1 hgrow1 hat1
               go_wp2_with fail
               go_roundw
               case rel => exact ⟨j + 1, by omega, by first | rfl | (congr 1; omega) | (push_cast; rfl), Lib.hid ⟨_, out4 ++ [x], HON1.out.2, HNEXT.out, by rw [List.length_append, HL4.out]; simp; omega⟩⟩
               case measure => simp [intOf]; omega
             ·have hjn2 : j = N := by omega
              have qj : decide ((j : Int) < (N : Int)) = false := by simp; omega
              have qjn : decide (j < N) = false := by simp; omega
              have hfin : out4 = Y2e out3 D N := by rw [← hcp, hjn2, Nat.sub_self]; rfl
              have HOUT : Hid (BlkI w (.slice q n cap) g A B L most X wr) := Lib.hid ⟨b4, v4, out4, hS4, by omega, by rw [hfin]; exact HX2.out⟩
              have HPL4 := Lib.hid (Yb3 hS4.b)
              clear hS4 hcp hfin hl4 hjn hjn2
              go_wp2_with fail
              refine ⟨HOUT, ?_⟩
              rw [HPL4.out, HPL.out]
              have h1 := HAB.out
              have h2 := HB34.out
              have h3 := HB12.out
              omega
        ·have HX2 : Hid (X = .error 6) := Lib.hid (by
          rw [HXE.out]
          unfold Y1r
          rw [if_neg (by show ¬ k < 30; exact hk30)]
          rfl)
         have HNZ := Lib.hid (Yba true L b3 k most q3 len3 c3 w11 (by show 30 ≤ k; omega))
         clear hk30
         obtain ⟨o0, o1, o2, o3⟩ := HT11.out.cells
         go_wp2_with fail
         refine HNZ.out.mono ?_
         rintro e w12 ⟨rfl, hbx⟩
         have HSx := Lib.hid (HS11.out.keep hbx)
         have HTx := Lib.hid (HT11.out.below hbx)
         clear o0 o1 o2 o3 hbx
         obtain ⟨o0, o1, o2, o3⟩ := HTx.out.cells
         obtain ⟨y0, y1, y2, y3⟩ := HTx.out.free
         obtain ⟨t0, t1, t2, t3⟩ := HSx.out.r.cells
         obtain ⟨u0, u1, u2, u3⟩ := HSx.out.r.free
         have z1 : ¬ (tt = g + 1) := by omega
         have z2 : ¬ (g + 1 = tt) := by omega
         go_wp2_with fail
         obtain ⟨d1, d2, d3, d4⟩ := (HSx.out.putt (tt := tt) hgt HSP.out (.string (ds L)) (.int .i64 (b3 : Int)) (.slice q3 len3 c3) (.int .i64 (most : Int))).done2 HL3.out b3
         refine bodyPost_ret (Y0g rfl _ _ (g + 1) _ _ _ _ (0, 0) rfl d4) rfl ?_
         exact ⟨b3, q3, len3, c3, d1, d2, .inr ⟨_, HX2.out, by decide, by decide, rfl⟩⟩
     ·have HX2 : Hid (X = .error 6) := Lib.hid (by
       rw [HXC.out]
       unfold Yhe Y1r
       rw [if_neg (by show ¬ i < 29; exact hi29)]
       rfl)
      have HNF := Lib.hid (Yba false L b i most q3 len3 c3 w7 (by show 29 ≤ i; omega))
      obtain ⟨o0, o1, o2, o3⟩ := HT7.out.cells
      clear hi29
      go_wp2_with fail
      refine HNF.out.mono ?_
      rintro e w8 ⟨rfl, hb8⟩
      have HS8 := Lib.hid (HS7.out.keep hb8)
      have HT8 := Lib.hid (HT7.out.below hb8)
      clear p0 p1 p2 p3 f0 f1 f2 f3 t0 t1 t2 t3 u0 u1 u2 u3 o0 o1 o2 o3 hb8
      obtain ⟨o0, o1, o2, o3⟩ := HT8.out.cells
      obtain ⟨y0, y1, y2, y3⟩ := HT8.out.free
      obtain ⟨t0, t1, t2, t3⟩ := HS8.out.r.cells
      obtain ⟨u0, u1, u2, u3⟩ := HS8.out.r.free
      have z1 : ¬ (tt = g + 1) := by omega
      have z2 : ¬ (g + 1 = tt) := by omega
      go_wp2_with fail
      obtain ⟨d1, d2, d3, d4⟩ := (HS8.out.putt (tt := tt) hgt HSP.out (.string (ds L)) (.int .i64 (b : Int)) (.slice q3 len3 c3) (.int .i64 (most : Int))).done2 HL3.out b
      refine bodyPost_ret (Y0g rfl _ _ (g + 1) _ _ _ _ (0, 0) rfl d4) rfl ?_
      exact ⟨b, q3, len3, c3, d1, d2, .inr ⟨6, HX2.out, by decide, by decide, rfl⟩⟩
end Go.Proofs.YtkkfkmoikcmhoaaGreat.Inf
namespace Go.Proofs.YtkkfkmoikcmhoaaGreat.Inf
open Go.RowKit Oct Bit Hf
set_option maxRecDepth 100000
set_option maxHeartbeats 8000000 in
theorem Ygb (L : List Bool) (a most : Nat) (q : Option Addr) (len cap : Nat) (p : Option Addr) (k c9 n : Nat) (W : List (List Bool)) (w : World) (ha : a ≤ L.length) (hl : L.length ≤ 24000) (hv : VRow w w.heap.size p (strs (Y3f W))) (hk : W.length = k) (hk1 : 1 ≤ k) (hk2 : k ≤ 19) (hW3 : ∀ m ∈ W, m.length ≤ 30) (hn : n ≤ 1000) :
  Calls Tryz.prog 68 #[.agg #[.string (ds L), .int .i64 (a : Int), .slice q len cap, .int .i64 (most : Int)], .slice p k c9, .int .i64 (n : Int)] w (LnP w L q len cap most n (Y66 W n L a [])) := by
 obtain ⟨i0, hi, hz0, hz1, hz2⟩ := info_parts Tryz.infoInt
 obtain ⟨X, hX⟩ : ∃ X, X = Y66 W n L a [] := ⟨_, rfl⟩
 rw [← hX]
 have hsz := Y0w L
 have HV := Lib.hid hv
 have HK := Lib.hid hk
 have HW3 := Lib.hid hW3
 have HST : Hid (LnI w w.heap.size L (.slice q len cap) most n W X (.slice none 0 0) ((w.alloc (.cells #[.string (ds L), .int .i64 (a : Int), .slice q len cap, .int .i64 (most : Int)] 69)).alloc (.cells #[.string ByteArray.empty, .int .i64 0, .slice none 0 0, .int .i64 0] 69))) := Lib.hid ⟨a, [], LnS.start ha, .inl ⟨by simp, hX.symm⟩, by simp, rfl⟩
 clear hv hk hW3 hX ha
 go_enter Tryz.func68, Tryz.ntmps68
 go_wp2_with fail
 obtain ⟨g, hg⟩ : ∃ g, w.heap.size = g := ⟨_, rfl⟩
 rw [hg] at HST ⊢
 have HG := Lib.hid hg
 clear hg
 go_loopw [9, 10, 11, 12, 13, 14, 15, 16, 17, 18, 19] (fun v8 _ _ _ _ _ _ _ _ _ _ wr => Hid (LnI w g L (.slice q len cap) most n W X v8 wr)) (fun v8 _ _ _ _ _ _ _ _ _ _ _ => n - Yt1 v8)
 case atStart => exact HST
 case round =>
  obtain ⟨b0, all, hS, hrun, hal, hlv⟩ := hrel.out
  obtain ⟨q8, c8, rfl, hq0, hqc, hqm, hqr, hqb⟩ := Y18 hS.own (Y06 _)
  rw [Y01] at hqc hlv hS
  unfold maxLen at hqm
  obtain ⟨al, hal2⟩ : ∃ al, all.length = al := ⟨_, rfl⟩
  have HAL := Lib.hid hal2
  rw [Y01]
  rw [hal2] at hqc hlv hal hS ⊢
  have HS := Lib.hid hS
  have HRUN := Lib.hid hrun
  have HQR := Lib.hid hqr
  have HQ0 := Lib.hid hq0
  have hbw : Below w.heap.size w wr := by rw [HG.out]; exact hS.bl
  have HVR := Lib.hid ((HV.out.below hbw (Nat.le_refl _)).mono hbw.size)
  obtain ⟨p0, p1, p2, p3⟩ := hS.bx.cells
  obtain ⟨f0, f1, f2, f3⟩ := hS.bx.free
  clear hbw hal2 hS hrun hqr hq0 hqb hrel HST
  by_cases hln : al < n
  ·have ql : decide ((al : Int) < (n : Int)) = true := by simpa using hln
   have qln : decide (al < n) = true := by simpa using hln
   have heq : Y66 W n L b0 all = X := by
    rcases HRUN.out with h | h
    ·exact h.2
    ·have := HAL.out; omega
   rw [Yjn W n _ b0 all (by rw [HAL.out]; exact hln)] at heq
   rcases hnx : Y1p W L b0 with c | ⟨s, b⟩
   ·rw [hnx] at heq
    have HX2 : Hid (X = .error c) := Lib.hid heq.symm
    have HNX := Lib.hid (Yb7 p k c9 W L b0 c most q len cap wr HVR.out HK.out hk1 (by omega) HW3.out HS.out.le (by omega) hnx)
    clear heq hnx
    go_wp2_with fail
    refine HNX.out.mono ?_
    rintro e w6 ⟨hc, ⟨b, rfl⟩, hb6⟩
    have HS6 := Lib.hid (fun O : Obj => HS.out.keep (hb6.trans (((Below.refl _ w6).alloc (Nat.le_refl _) O).mono hb6.size)))
    clear p0 p1 p2 p3 f0 f1 f2 f3 hb6
    obtain ⟨t0, t1, t2, t3⟩ := (HS6.out (.cells #[.string (ds L), .int .i64 (b : Int), .slice q len cap, .int .i64 (most : Int)] 69)).rs.cells
    obtain ⟨u0, u1, u2, u3⟩ := (HS6.out (.cells #[.string (ds L), .int .i64 (b : Int), .slice q len cap, .int .i64 (most : Int)] 69)).rs.free
    obtain ⟨d1, d2⟩ := (HS6.out (.cells #[.string (ds L), .int .i64 (b : Int), .slice q len cap, .int .i64 (most : Int)] 69)).done b
    have D1 := Lib.hid d1
    have D2 := Lib.hid d2
    clear d1 d2
    rcases hc with rfl | rfl
    all_goals
     go_wp2_with fail
     refine bodyPost_ret (Y0y rfl _ _ (g + 1) _ _ _ _ (0, 0) rfl D2.out) rfl ?_
     exact ⟨D1.out, .inr ⟨_, b, HX2.out, by decide, by decide, rfl⟩⟩
   ·rw [hnx, R.then_ok] at heq
    obtain ⟨hbL, hab, hsW⟩ := Ydm hnx
    have hs19 : s < 19 := by have := HK.out; omega
    have HNX := Lib.hid (Ye4 p k c9 W L b0 s b most q len cap wr HVR.out HK.out hk1 (by omega) HW3.out HS.out.le (by omega) hnx)
    have HEQ := Lib.hid heq
    clear heq hnx hab hsW
    go_upto_region 4 with (go_at_call 65; refine HNX.out.mono ?_; rintro e w6 ⟨rfl, hb6⟩; have HB6 := Lib.hid hb6; clear hb6)
    have HS6 := Lib.hid (HS.out.keep (HB6.out.trans (((Below.refl _ w6).alloc (Nat.le_refl _) (.cells #[.string (ds L), .int .i64 (b : Int), .slice q len cap, .int .i64 (most : Int)] 69)).mono HB6.out.size)))
    have hgt : g + 1 < w6.heap.size := Nat.lt_of_lt_of_le HS.out.lt2 HB6.out.size
    clear p0 p1 p2 p3 f0 f1 f2 f3 HB6
    obtain ⟨p0, p1, p2, p3⟩ := HS6.out.bx.cells
    obtain ⟨f0, f1, f2, f3⟩ := HS6.out.bx.free
    go_upto_region 7 with (fail)
    have HS7 := Lib.hid (HS6.out.put b hbL)
    obtain ⟨w7, hw7⟩ : ∃ V, V = put4 (w6.alloc (.cells #[.string (ds L), .int .i64 (b : Int), .slice q len cap, .int .i64 (most : Int)] 69)) g (.string (ds L)) (.int .i64 (b : Int)) (.slice q len cap) (.int .i64 (most : Int)) := ⟨_, rfl⟩
    rw [← hw7] at HS7
    unfold put4 at hw7
    rw [← hw7]
    clear hw7 p0 p1 p2 p3 f0 f1 f2 f3 HS6 HNX HS hgt
    obtain ⟨p0, p1, p2, p3⟩ := HS7.out.bx.cells
    obtain ⟨f0, f1, f2, f3⟩ := HS7.out.bx.free
    have hsN : (0 : Int) ≤ (s : Int) := by omega
    by_cases hbad : s = 16 ∧ al = 0
    ·have q16 : ((s : Int) == 16) = true := by rw [hbad.1]; rfl
     have q0 : ((al : Int) == 0) = true := by rw [hbad.2]; rfl
     have HX2 : Hid (X = .error 3) := Lib.hid (by
      rw [← HEQ.out]
      exact if_pos ⟨hbad.1, List.length_eq_zero_iff.1 (by rw [HAL.out]; exact hbad.2)⟩)
     obtain ⟨t0, t1, t2, t3⟩ := HS7.out.rs.cells
     obtain ⟨u0, u1, u2, u3⟩ := HS7.out.rs.free
     obtain ⟨d1, d2⟩ := HS7.out.done b
     have D1 := Lib.hid d1
     have D2 := Lib.hid d2
     clear d1 d2 hbad
     go_wp2_with fail
     refine bodyPost_ret (Y0y rfl _ _ (g + 1) _ _ _ _ (0, 0) rfl D2.out) rfl ?_
     exact ⟨D1.out, .inr ⟨_, b, HX2.out, by decide, by decide, rfl⟩⟩
    ·have HEQ2 : Hid ((Y1k L b (wideV s)).then (fun more a => if n < all.length + (Y3v s + more) then .error 3 else Y66 W n L a (all ++ List.replicate (Y3v s + more) (Y4h s all))) = X) := Lib.hid (by
      rw [← HEQ.out]
      exact (if_neg (fun h => hbad ⟨h.1, by rw [← HAL.out, h.2]; rfl⟩)).symm)
     obtain ⟨x, hxv⟩ : ∃ x, x = Y4h s all := ⟨_, rfl⟩
     obtain ⟨wd, hwd⟩ : ∃ wd, wd = wideV s := ⟨_, rfl⟩
     obtain ⟨tm, htm⟩ : ∃ tm, tm = Y3v s := ⟨_, rfl⟩
     obtain ⟨Y, hY⟩ : ∃ Y, Y = Y1k L b wd := ⟨_, rfl⟩
     have hx30 : x ≤ 30 := by rw [hxv]; exact Ywc (by omega) HS7.out.m30
     have heq2 := HEQ2.out
     rw [← hwd, ← htm, ← hxv, ← hY] at heq2
     have HEQ3 := Lib.hid heq2
     have hwd32 : wd ≤ 13 := by rw [hwd]; exact Yzo s
     have HMB : Hid (∀ m b2, Y = .ok (m, b2) → ∃ T, tm + m = T ∧ 1 ≤ T ∧ T ≤ 140 ∧ b2 ≤ L.length) := Lib.hid (fun m b2 h => by
      rw [hY] at h
      obtain ⟨h1, _, h3⟩ := Y1q h
      rw [hwd] at h1
      have h4 := Yyc s m h1
      have h5 := Y3n s
      exact ⟨_, rfl, by omega, by omega, h3⟩)
     have HNUM := Lib.hid (fun (m b2 : Nat) (V : World) (h : Y = .ok (m, b2)) => Y4k L b wd most m b2 q len cap V (by omega) (by omega) (hY ▸ h))
     have HNUB := Lib.hid (fun (c : Nat) (V : World) (h : Y = .error c) => Y7z L b wd most c q len cap V hbL (by omega) (by omega) (hY ▸ h))
     have HNUC : Hid (∀ c, Y = .error c → c = 2) := Lib.hid (fun c h => (Y56 (hY ▸ h)).1)
     have hcase : (((s : Int) == 16) = true ∧ ((s : Int) == 17) = false ∧ ((s : Int) == 18) = false ∧ ((al : Int) == 0) = false ∧ Hid (tm = 3 ∧ wd = 2 ∧ x = all.getLastD 0 ∧ 0 < al)) ∨ (((s : Int) == 16) = false ∧ ((s : Int) == 17) = true ∧ ((s : Int) == 18) = false ∧ Hid (tm = 3 ∧ wd = 3 ∧ x = 0)) ∨
       (((s : Int) == 16) = false ∧ ((s : Int) == 17) = false ∧ ((s : Int) == 18) = true ∧ Hid (tm = 11 ∧ wd = 7 ∧ x = 0)) ∨ (((s : Int) == 16) = false ∧ ((s : Int) == 17) = false ∧ ((s : Int) == 18) = false ∧ Hid (tm = 1 ∧ wd = 0 ∧ x = s)) := by
      by_cases h1 : s = 16
      ·left; exact ⟨by simp; omega, by simp; omega, by simp; omega, by simp; omega, Lib.hid ⟨by rw [htm, h1]; rfl, by rw [hwd, h1]; rfl, by rw [hxv, h1]; rfl, by omega⟩⟩
      ·right
       by_cases h2 : s = 17
       ·left; exact ⟨by simp; omega, by simp; omega, by simp; omega, Lib.hid ⟨by rw [htm, h2]; rfl, by rw [hwd, h2]; rfl, by rw [hxv, h2]; rfl⟩⟩
       ·right
        by_cases h3 : s = 18
        ·left; exact ⟨by simp; omega, by simp; omega, by simp; omega, Lib.hid ⟨by rw [htm, h3]; rfl, by rw [hwd, h3]; rfl, by rw [hxv, h3]; rfl⟩⟩
        ·right; exact ⟨by simp; omega, by simp; omega, by simp; omega, Lib.hid ⟨by rw [htm]; unfold Y3v; rw [if_neg h1, if_neg h2, if_neg h3], by rw [hwd]; unfold wideV; rw [if_neg h1, if_neg h2, if_neg h3], by rw [hxv]; unfold Y4h; rw [if_neg h1, if_neg h2, if_neg h3]⟩⟩
     clear hbad hxv hwd htm hY heq2 HEQ HEQ2 hwd32
     rcases hcase with ⟨q16, q17, q18, q0, HC⟩ | ⟨q16, q17, q18, HC⟩ | ⟨q16, q17, q18, HC⟩ | ⟨q16, q17, q18, HC⟩
     ·obtain ⟨rfl, rfl, hx, h0⟩ := HC.out
      have HE : Hid (∀ m T : Nat, 3 + m = T → (3 : Int) + (m : Int) = (T : Int)) := Lib.hid (fun m T h => by omega)
      obtain ⟨z, hz⟩ : ∃ z, al = z + 1 := ⟨al - 1, by omega⟩
      obtain ⟨bq, oq, rfl, hcz⟩ := HS7.out.last HAL.out hz
      rw [← hx] at hcz
      obtain ⟨e2z, iz1, iz0⟩ := Yzq hz hal hn
      clear hz hx h0
      go_upto_region 11 with (fail)
      go_quiet (fail)
      have HS8 := Lib.hid (HS7.out.keep ((show Drawn w7 (w7.drewN nq) from ⟨nq, rfl⟩).below _))
      obtain ⟨w8, hw8⟩ : ∃ V, V = w7.drewN nq := ⟨_, rfl⟩
      rw [← hw8] at HS8 ⊢
      clear hw8 p0 p1 p2 p3 f0 f1 f2 f3 hcz
      go_upto_region 16 with (fail)
      clear HC HS7
      obtain ⟨p0, p1, p2, p3⟩ := HS8.out.bx.cells
      obtain ⟨f0, f1, f2, f3⟩ := HS8.out.bx.free
      rcases Y with c | ⟨m, b2⟩
      ·have hc2 := HNUC.out c rfl
       subst hc2
       have HX2 : Hid (X = .error 2) := Lib.hid HEQ3.out.symm
       go_wp2_with fail
       refine (HNUB.out 2 _ rfl).mono ?_
       rintro e w9 ⟨rfl, hb9⟩
       have HS9 := Lib.hid (fun O : Obj => HS8.out.keep (hb9.trans (((Below.refl _ w9).alloc (Nat.le_refl _) O).mono hb9.size)))
       clear p0 p1 p2 p3 f0 f1 f2 f3 hb9
       obtain ⟨t0, t1, t2, t3⟩ := (HS9.out (.cells #[.string (ds L), .int .i64 (b : Int), .slice q len cap, .int .i64 (most : Int)] 69)).rs.cells
       obtain ⟨u0, u1, u2, u3⟩ := (HS9.out (.cells #[.string (ds L), .int .i64 (b : Int), .slice q len cap, .int .i64 (most : Int)] 69)).rs.free
       obtain ⟨d1, d2⟩ := (HS9.out (.cells #[.string (ds L), .int .i64 (b : Int), .slice q len cap, .int .i64 (most : Int)] 69)).done b
       have D1 := Lib.hid d1
       have D2 := Lib.hid d2
       clear d1 d2
       go_wp2_with fail
       refine bodyPost_ret (Y0y rfl _ _ (g + 1) _ _ _ _ (0, 0) rfl D2.out) rfl ?_
       exact ⟨D1.out, .inr ⟨_, b, HX2.out, by decide, by decide, rfl⟩⟩
      ·obtain ⟨T, hT, hT1, hT2, hb2L⟩ := HMB.out m b2 rfl
       have eT := HE.out m T hT
       have HEQ4 := Lib.hid HEQ3.out
       rw [R.then_ok, hT] at HEQ4
       have HNM := Lib.hid (fun V => HNUM.out m b2 V rfl)
       clear HEQ3 HNUM HNUB HNUC HMB HE hT
       go_upto_region 17 with (go_at_call 35; refine (HNM.out _).mono ?_; rintro e w9 ⟨rfl, hb9⟩; have HB9 := Lib.hid hb9; clear hb9)
       have HS9 := Lib.hid (HS8.out.keep (HB9.out.trans (((Below.refl _ w9).alloc (Nat.le_refl _) (.cells #[.string (ds L), .int .i64 (b2 : Int), .slice q len cap, .int .i64 (most : Int)] 69)).mono HB9.out.size)))
       clear p0 p1 p2 p3 f0 f1 f2 f3 HB9 HNM
       obtain ⟨p0, p1, p2, p3⟩ := HS9.out.bx.cells
       obtain ⟨f0, f1, f2, f3⟩ := HS9.out.bx.free
       go_upto_region 20 with (fail)
       have HS10 := Lib.hid (HS9.out.put b2 hb2L)
       obtain ⟨w10, hw10⟩ : ∃ V, V = put4 (w9.alloc (.cells #[.string (ds L), .int .i64 (b2 : Int), .slice q len cap, .int .i64 (most : Int)] 69)) g (.string (ds L)) (.int .i64 (b2 : Int)) (.slice q len cap) (.int .i64 (most : Int)) := ⟨_, rfl⟩
       rw [← hw10] at HS10
       unfold put4 at hw10
       rw [← hw10]
       clear hw10 p0 p1 p2 p3 f0 f1 f2 f3 HS9 HS8
       have HAP : Hid (LnS w g L (.slice q len cap) most b2 _ (all ++ List.replicate 0 x) w10) := Lib.hid (by rw [List.replicate_zero, List.append_nil]; exact HS10.out)
       clear HS10
       go_wp2_with fail
       go_loopw [9, 19] (fun v8 i wq => ∃ (j : Nat) (q9 : Option Addr) (c9 : Nat), j ≤ T ∧ i = .int .i64 (j : Int) ∧ v8 = .slice q9 (al + j) c9 ∧ Hid (LnS w g L (.slice q len cap) most b2 (.slice q9 (al + j) c9) (all ++ List.replicate j x) wq)) (fun _ i _ => T - (intOf i).toNat)
       case atStart => exact ⟨0, _, c8, by omega, rfl, rfl, HAP⟩
       case round =>
        obtain ⟨j, q9, c9, hj, rfl, rfl, HJ⟩ := hrel
        by_cases hjT : j < T
        ·have qj : decide ((j : Int) < (T : Int)) = true := by simpa using hjT
         have qjn : decide (j < T) = true := by simpa using hjT
         have hlr : (all ++ List.replicate j x).length = al + j := by rw [List.length_append, List.length_replicate, HAL.out]
         have hlcat : (Y05 (all ++ List.replicate j x)).length = al + j := by rw [Y01]; exact hlr
         have hblk : (wr.alloc (.cells #[.int .i64 (x : Int)] 3)).heap[wr.heap.size]? = some (.cells #[.int .i64 (x : Int)] 3 (0, 0)) := Array.getElem?_push_size
         have hba : Below wr.heap.size wr (wr.alloc (.cells #[.int .i64 (x : Int)] 3)) := (Below.refl _ wr).alloc (Nat.le_refl _) _
         have HVX : Hid (VRow (wr.alloc (.cells #[.int .i64 (x : Int)] 3)) (wr.alloc (.cells #[.int .i64 (x : Int)] 3)).heap.size (some ⟨wr.heap.size, 0, none⟩) (ints [(x : Int)])) := Lib.hid (Y17 (vs := ints [(x : Int)]) hblk (by simp))
         have HSA := Lib.hid (HJ.out.keep hba)
         have hownj : (wr.alloc (.cells #[.int .i64 (x : Int)] 3)).ownsRow (g + 2) 3 1 (.slice q9 (al + j) c9) (al + j) (ints (Y05 (all ++ List.replicate j x))) := by
          have h1 := HSA.out.own
          unfold IOwn at h1
          rw [hlcat] at h1
          exact h1
         have HOJ := Lib.hid hownj
         have HBZ : Hid (g + 2 ≤ (wr.alloc (.cells #[.int .i64 (x : Int)] 3)).heap.size) := Lib.hid (by have := HSA.out.lt2; omega)
         have HLR := Lib.hid hlr
         clear hba hownj hblk hlcat hlr HJ
         go_wp2_with (at_builtin; refine Y0i Tryz.underlying74 hi hz0 hz1 hz2 rfl (by decide) rfl _ _ rfl (g + 2) _ (al + j) (ints (Y05 (all ++ List.replicate j x))) rfl HOJ.out (some ⟨wr.heap.size, 0, none⟩) 1 1 (ints [(x : Int)]) rfl HVX.out rfl (fun h => by cases h) Y46 (by omega) HBZ.out ?_)
         intro v9 w11 hown9 hgrow9 hb9
         have hcat : ints (Y05 (all ++ List.replicate j x)) ++ ints [(x : Int)] = ints (Y05 ((all ++ List.replicate j x) ++ [x])) := by
          rw [Y36 (all ++ List.replicate j x), Y2w]
          rfl
         rw [hcat] at hown9
         obtain ⟨q10, c10, rfl, _, _, _, _, _⟩ := Y18 hown9 (by rw [Y06, Y01, List.length_append, HLR.out]; rfl)
         have HNJ : Hid (LnS w g L (.slice q len cap) most b2 (.slice q10 (al + (j + 1)) c10) (all ++ List.replicate (j + 1) x) w11) := Lib.hid (by
          rw [List.replicate_succ', ← List.append_assoc]
          refine HSA.out.more ?_ hb9 hx30
          rw [HLR.out]
          exact hown9)
         clear hown9 hgrow9 hb9 hcat
         go_wp2_with fail
         go_roundw
         case rel => exact ⟨j + 1, q10, c10, by omega, by first | rfl | (push_cast; rfl), rfl, HNJ⟩
         case measure => simp [intOf]; omega
        ·have hjT2 : j = T := by omega
         subst hjT2
         have qj : decide ((j : Int) < (j : Int)) = false := by simp
         have qjn : decide (j < j) = false := by simp
         have HNS : Hid (LnI w g L (.slice q len cap) most n W X (.slice q9 (al + j) c9) wr) := Lib.hid (by
          have hla := HAL.out
          refine ⟨b2, all ++ List.replicate j x, HJ.out, ?_, by simp; omega, by simp [Yt1]; omega⟩
          have heq := HEQ4.out
          by_cases hov : n < all.length + j
          ·rw [if_pos hov] at heq
           exact .inr ⟨by simp; omega, heq.symm⟩
          ·rw [if_neg hov] at heq
           exact .inl ⟨by simp; omega, heq⟩)
         clear HJ hjT hj
         go_wp2_with fail
         go_roundw
         case rel => exact HNS
         case measure => simp only [Yt1]; omega
     ·obtain ⟨rfl, rfl, rfl⟩ := HC.out
      have HE : Hid (∀ m T : Nat, 3 + m = T → (3 : Int) + (m : Int) = (T : Int)) := Lib.hid (fun m T h => by omega)
      have HS8 := HS7
      obtain ⟨w8, hw8⟩ : ∃ V, V = w7 := ⟨_, rfl⟩
      rw [← hw8] at HS8 ⊢
      clear hw8 p0 p1 p2 p3 f0 f1 f2 f3
      go_upto_region 16 with (fail)
      clear HC HS7
      obtain ⟨p0, p1, p2, p3⟩ := HS8.out.bx.cells
      obtain ⟨f0, f1, f2, f3⟩ := HS8.out.bx.free
      rcases Y with c | ⟨m, b2⟩
      ·have hc2 := HNUC.out c rfl
       subst hc2
       have HX2 : Hid (X = .error 2) := Lib.hid HEQ3.out.symm
       go_wp2_with fail
       refine (HNUB.out 2 _ rfl).mono ?_
       rintro e w9 ⟨rfl, hb9⟩
       have HS9 := Lib.hid (fun O : Obj => HS8.out.keep (hb9.trans (((Below.refl _ w9).alloc (Nat.le_refl _) O).mono hb9.size)))
       clear p0 p1 p2 p3 f0 f1 f2 f3 hb9
       obtain ⟨t0, t1, t2, t3⟩ := (HS9.out (.cells #[.string (ds L), .int .i64 (b : Int), .slice q len cap, .int .i64 (most : Int)] 69)).rs.cells
       obtain ⟨u0, u1, u2, u3⟩ := (HS9.out (.cells #[.string (ds L), .int .i64 (b : Int), .slice q len cap, .int .i64 (most : Int)] 69)).rs.free
       obtain ⟨d1, d2⟩ := (HS9.out (.cells #[.string (ds L), .int .i64 (b : Int), .slice q len cap, .int .i64 (most : Int)] 69)).done b
       have D1 := Lib.hid d1
       have D2 := Lib.hid d2
       clear d1 d2
       go_wp2_with fail
       refine bodyPost_ret (Y0y rfl _ _ (g + 1) _ _ _ _ (0, 0) rfl D2.out) rfl ?_
       exact ⟨D1.out, .inr ⟨_, b, HX2.out, by decide, by decide, rfl⟩⟩
      ·obtain ⟨T, hT, hT1, hT2, hb2L⟩ := HMB.out m b2 rfl
       have eT := HE.out m T hT
       have HEQ4 := Lib.hid HEQ3.out
       rw [R.then_ok, hT] at HEQ4
       have HNM := Lib.hid (fun V => HNUM.out m b2 V rfl)
       clear HEQ3 HNUM HNUB HNUC HMB HE hT
       go_upto_region 17 with (go_at_call 35; refine (HNM.out _).mono ?_; rintro e w9 ⟨rfl, hb9⟩; have HB9 := Lib.hid hb9; clear hb9)
       have HS9 := Lib.hid (HS8.out.keep (HB9.out.trans (((Below.refl _ w9).alloc (Nat.le_refl _) (.cells #[.string (ds L), .int .i64 (b2 : Int), .slice q len cap, .int .i64 (most : Int)] 69)).mono HB9.out.size)))
       clear p0 p1 p2 p3 f0 f1 f2 f3 HB9 HNM
       obtain ⟨p0, p1, p2, p3⟩ := HS9.out.bx.cells
       obtain ⟨f0, f1, f2, f3⟩ := HS9.out.bx.free
       go_upto_region 20 with (fail)
       have HS10 := Lib.hid (HS9.out.put b2 hb2L)
       obtain ⟨w10, hw10⟩ : ∃ V, V = put4 (w9.alloc (.cells #[.string (ds L), .int .i64 (b2 : Int), .slice q len cap, .int .i64 (most : Int)] 69)) g (.string (ds L)) (.int .i64 (b2 : Int)) (.slice q len cap) (.int .i64 (most : Int)) := ⟨_, rfl⟩
       rw [← hw10] at HS10
       unfold put4 at hw10
       rw [← hw10]
       clear hw10 p0 p1 p2 p3 f0 f1 f2 f3 HS9 HS8
       have HAP : Hid (LnS w g L (.slice q len cap) most b2 _ (all ++ List.replicate 0 (0 : Nat)) w10) := Lib.hid (by rw [List.replicate_zero, List.append_nil]; exact HS10.out)
       clear HS10
       go_wp2_with fail
       go_loopw [9, 19] (fun v8 i wq => ∃ (j : Nat) (q9 : Option Addr) (c9 : Nat), j ≤ T ∧ i = .int .i64 (j : Int) ∧ v8 = .slice q9 (al + j) c9 ∧ Hid (LnS w g L (.slice q len cap) most b2 (.slice q9 (al + j) c9) (all ++ List.replicate j (0 : Nat)) wq)) (fun _ i _ => T - (intOf i).toNat)
       case atStart => exact ⟨0, _, c8, by omega, rfl, rfl, HAP⟩
       case round =>
        obtain ⟨j, q9, c9, hj, rfl, rfl, HJ⟩ := hrel
        by_cases hjT : j < T
        ·have qj : decide ((j : Int) < (T : Int)) = true := by simpa using hjT
         have qjn : decide (j < T) = true := by simpa using hjT
         have hlr : (all ++ List.replicate j (0 : Nat)).length = al + j := by rw [List.length_append, List.length_replicate, HAL.out]
         have hlcat : (Y05 (all ++ List.replicate j (0 : Nat))).length = al + j := by rw [Y01]; exact hlr
         have hblk : (wr.alloc (.cells #[.int .i64 ((0 : Nat) : Int)] 3)).heap[wr.heap.size]? = some (.cells #[.int .i64 ((0 : Nat) : Int)] 3 (0, 0)) := Array.getElem?_push_size
         have hba : Below wr.heap.size wr (wr.alloc (.cells #[.int .i64 ((0 : Nat) : Int)] 3)) := (Below.refl _ wr).alloc (Nat.le_refl _) _
         have HVX : Hid (VRow (wr.alloc (.cells #[.int .i64 ((0 : Nat) : Int)] 3)) (wr.alloc (.cells #[.int .i64 ((0 : Nat) : Int)] 3)).heap.size (some ⟨wr.heap.size, 0, none⟩) (ints [((0 : Nat) : Int)])) := Lib.hid (Y17 (vs := ints [((0 : Nat) : Int)]) hblk (by simp))
         have HSA := Lib.hid (HJ.out.keep hba)
         have hownj : (wr.alloc (.cells #[.int .i64 ((0 : Nat) : Int)] 3)).ownsRow (g + 2) 3 1 (.slice q9 (al + j) c9) (al + j) (ints (Y05 (all ++ List.replicate j (0 : Nat)))) := by
          have h1 := HSA.out.own
          unfold IOwn at h1
          rw [hlcat] at h1
          exact h1
         have HOJ := Lib.hid hownj
         have HBZ : Hid (g + 2 ≤ (wr.alloc (.cells #[.int .i64 ((0 : Nat) : Int)] 3)).heap.size) := Lib.hid (by have := HSA.out.lt2; omega)
         have HLR := Lib.hid hlr
         clear hba hownj hblk hlcat hlr HJ
         go_wp2_with (at_builtin; refine Y0i Tryz.underlying74 hi hz0 hz1 hz2 rfl (by decide) rfl _ _ rfl (g + 2) _ (al + j) (ints (Y05 (all ++ List.replicate j (0 : Nat)))) rfl HOJ.out (some ⟨wr.heap.size, 0, none⟩) 1 1 (ints [((0 : Nat) : Int)]) rfl HVX.out rfl (fun h => by cases h) Y46 (by omega) HBZ.out ?_)
         intro v9 w11 hown9 hgrow9 hb9
         have hcat : ints (Y05 (all ++ List.replicate j (0 : Nat))) ++ ints [(0 : Int)] = ints (Y05 ((all ++ List.replicate j (0 : Nat)) ++ [(0 : Nat)])) := by
          rw [Y36 (all ++ List.replicate j (0 : Nat)), Y2w]
          rfl
         rw [hcat] at hown9
         obtain ⟨q10, c10, rfl, _, _, _, _, _⟩ := Y18 hown9 (by rw [Y06, Y01, List.length_append, HLR.out]; rfl)
         have HNJ : Hid (LnS w g L (.slice q len cap) most b2 (.slice q10 (al + (j + 1)) c10) (all ++ List.replicate (j + 1) (0 : Nat)) w11) := Lib.hid (by
          rw [List.replicate_succ', ← List.append_assoc]
          refine HSA.out.more ?_ hb9 hx30
          rw [HLR.out]
          exact hown9)
         clear hown9 hgrow9 hb9 hcat
         go_wp2_with fail
         go_roundw
         case rel => exact ⟨j + 1, q10, c10, by omega, by first | rfl | (push_cast; rfl), rfl, HNJ⟩
         case measure => simp [intOf]; omega
        ·have hjT2 : j = T := by omega
         subst hjT2
         have qj : decide ((j : Int) < (j : Int)) = false := by simp
         have qjn : decide (j < j) = false := by simp
         have HNS : Hid (LnI w g L (.slice q len cap) most n W X (.slice q9 (al + j) c9) wr) := Lib.hid (by
          have hla := HAL.out
          refine ⟨b2, all ++ List.replicate j (0 : Nat), HJ.out, ?_, by simp; omega, by simp [Yt1]; omega⟩
          have heq := HEQ4.out
          by_cases hov : n < all.length + j
          ·rw [if_pos hov] at heq
           exact .inr ⟨by simp; omega, heq.symm⟩
          ·rw [if_neg hov] at heq
           exact .inl ⟨by simp; omega, heq⟩)
         clear HJ hjT hj
         go_wp2_with fail
         go_roundw
         case rel => exact HNS
         case measure => simp only [Yt1]; omega
     ·obtain ⟨rfl, rfl, rfl⟩ := HC.out
      have HE : Hid (∀ m T : Nat, 11 + m = T → (11 : Int) + (m : Int) = (T : Int)) := Lib.hid (fun m T h => by omega)
      have HS8 := HS7
      obtain ⟨w8, hw8⟩ : ∃ V, V = w7 := ⟨_, rfl⟩
      rw [← hw8] at HS8 ⊢
      clear hw8 p0 p1 p2 p3 f0 f1 f2 f3
      go_upto_region 16 with (fail)
      clear HC HS7
      obtain ⟨p0, p1, p2, p3⟩ := HS8.out.bx.cells
      obtain ⟨f0, f1, f2, f3⟩ := HS8.out.bx.free
      rcases Y with c | ⟨m, b2⟩
      ·have hc2 := HNUC.out c rfl
       subst hc2
       have HX2 : Hid (X = .error 2) := Lib.hid HEQ3.out.symm
       go_wp2_with fail
       refine (HNUB.out 2 _ rfl).mono ?_
       rintro e w9 ⟨rfl, hb9⟩
       have HS9 := Lib.hid (fun O : Obj => HS8.out.keep (hb9.trans (((Below.refl _ w9).alloc (Nat.le_refl _) O).mono hb9.size)))
       clear p0 p1 p2 p3 f0 f1 f2 f3 hb9
       obtain ⟨t0, t1, t2, t3⟩ := (HS9.out (.cells #[.string (ds L), .int .i64 (b : Int), .slice q len cap, .int .i64 (most : Int)] 69)).rs.cells
       obtain ⟨u0, u1, u2, u3⟩ := (HS9.out (.cells #[.string (ds L), .int .i64 (b : Int), .slice q len cap, .int .i64 (most : Int)] 69)).rs.free
       obtain ⟨d1, d2⟩ := (HS9.out (.cells #[.string (ds L), .int .i64 (b : Int), .slice q len cap, .int .i64 (most : Int)] 69)).done b
       have D1 := Lib.hid d1
       have D2 := Lib.hid d2
       clear d1 d2
       go_wp2_with fail
       refine bodyPost_ret (Y0y rfl _ _ (g + 1) _ _ _ _ (0, 0) rfl D2.out) rfl ?_
       exact ⟨D1.out, .inr ⟨_, b, HX2.out, by decide, by decide, rfl⟩⟩
      ·obtain ⟨T, hT, hT1, hT2, hb2L⟩ := HMB.out m b2 rfl
       have eT := HE.out m T hT
       have HEQ4 := Lib.hid HEQ3.out
       rw [R.then_ok, hT] at HEQ4
       have HNM := Lib.hid (fun V => HNUM.out m b2 V rfl)
       clear HEQ3 HNUM HNUB HNUC HMB HE hT
       go_upto_region 17 with (go_at_call 35; refine (HNM.out _).mono ?_; rintro e w9 ⟨rfl, hb9⟩; have HB9 := Lib.hid hb9; clear hb9)
       have HS9 := Lib.hid (HS8.out.keep (HB9.out.trans (((Below.refl _ w9).alloc (Nat.le_refl _) (.cells #[.string (ds L), .int .i64 (b2 : Int), .slice q len cap, .int .i64 (most : Int)] 69)).mono HB9.out.size)))
       clear p0 p1 p2 p3 f0 f1 f2 f3 HB9 HNM
       obtain ⟨p0, p1, p2, p3⟩ := HS9.out.bx.cells
       obtain ⟨f0, f1, f2, f3⟩ := HS9.out.bx.free
       go_upto_region 20 with (fail)
       have HS10 := Lib.hid (HS9.out.put b2 hb2L)
       obtain ⟨w10, hw10⟩ : ∃ V, V = put4 (w9.alloc (.cells #[.string (ds L), .int .i64 (b2 : Int), .slice q len cap, .int .i64 (most : Int)] 69)) g (.string (ds L)) (.int .i64 (b2 : Int)) (.slice q len cap) (.int .i64 (most : Int)) := ⟨_, rfl⟩
       rw [← hw10] at HS10
       unfold put4 at hw10
       rw [← hw10]
       clear hw10 p0 p1 p2 p3 f0 f1 f2 f3 HS9 HS8
       have HAP : Hid (LnS w g L (.slice q len cap) most b2 _ (all ++ List.replicate 0 (0 : Nat)) w10) := Lib.hid (by rw [List.replicate_zero, List.append_nil]; exact HS10.out)
       clear HS10
       go_wp2_with fail
       go_loopw [9, 19] (fun v8 i wq => ∃ (j : Nat) (q9 : Option Addr) (c9 : Nat), j ≤ T ∧ i = .int .i64 (j : Int) ∧ v8 = .slice q9 (al + j) c9 ∧ Hid (LnS w g L (.slice q len cap) most b2 (.slice q9 (al + j) c9) (all ++ List.replicate j (0 : Nat)) wq)) (fun _ i _ => T - (intOf i).toNat)
       case atStart => exact ⟨0, _, c8, by omega, rfl, rfl, HAP⟩
       case round =>
        obtain ⟨j, q9, c9, hj, rfl, rfl, HJ⟩ := hrel
        by_cases hjT : j < T
        ·have qj : decide ((j : Int) < (T : Int)) = true := by simpa using hjT
         have qjn : decide (j < T) = true := by simpa using hjT
         have hlr : (all ++ List.replicate j (0 : Nat)).length = al + j := by rw [List.length_append, List.length_replicate, HAL.out]
         have hlcat : (Y05 (all ++ List.replicate j (0 : Nat))).length = al + j := by rw [Y01]; exact hlr
         have hblk : (wr.alloc (.cells #[.int .i64 ((0 : Nat) : Int)] 3)).heap[wr.heap.size]? = some (.cells #[.int .i64 ((0 : Nat) : Int)] 3 (0, 0)) := Array.getElem?_push_size
         have hba : Below wr.heap.size wr (wr.alloc (.cells #[.int .i64 ((0 : Nat) : Int)] 3)) := (Below.refl _ wr).alloc (Nat.le_refl _) _
         have HVX : Hid (VRow (wr.alloc (.cells #[.int .i64 ((0 : Nat) : Int)] 3)) (wr.alloc (.cells #[.int .i64 ((0 : Nat) : Int)] 3)).heap.size (some ⟨wr.heap.size, 0, none⟩) (ints [((0 : Nat) : Int)])) := Lib.hid (Y17 (vs := ints [((0 : Nat) : Int)]) hblk (by simp))
         have HSA := Lib.hid (HJ.out.keep hba)
         have hownj : (wr.alloc (.cells #[.int .i64 ((0 : Nat) : Int)] 3)).ownsRow (g + 2) 3 1 (.slice q9 (al + j) c9) (al + j) (ints (Y05 (all ++ List.replicate j (0 : Nat)))) := by
          have h1 := HSA.out.own
          unfold IOwn at h1
          rw [hlcat] at h1
          exact h1
         have HOJ := Lib.hid hownj
         have HBZ : Hid (g + 2 ≤ (wr.alloc (.cells #[.int .i64 ((0 : Nat) : Int)] 3)).heap.size) := Lib.hid (by have := HSA.out.lt2; omega)
         have HLR := Lib.hid hlr
         clear hba hownj hblk hlcat hlr HJ
         go_wp2_with (at_builtin; refine Y0i Tryz.underlying74 hi hz0 hz1 hz2 rfl (by decide) rfl _ _ rfl (g + 2) _ (al + j) (ints (Y05 (all ++ List.replicate j (0 : Nat)))) rfl HOJ.out (some ⟨wr.heap.size, 0, none⟩) 1 1 (ints [((0 : Nat) : Int)]) rfl HVX.out rfl (fun h => by cases h) Y46 (by omega) HBZ.out ?_)
         intro v9 w11 hown9 hgrow9 hb9
         have hcat : ints (Y05 (all ++ List.replicate j (0 : Nat))) ++ ints [(0 : Int)] = ints (Y05 ((all ++ List.replicate j (0 : Nat)) ++ [(0 : Nat)])) := by
          rw [Y36 (all ++ List.replicate j (0 : Nat)), Y2w]
          rfl
         rw [hcat] at hown9
         obtain ⟨q10, c10, rfl, _, _, _, _, _⟩ := Y18 hown9 (by rw [Y06, Y01, List.length_append, HLR.out]; rfl)
         have HNJ : Hid (LnS w g L (.slice q len cap) most b2 (.slice q10 (al + (j + 1)) c10) (all ++ List.replicate (j + 1) (0 : Nat)) w11) := Lib.hid (by
          rw [List.replicate_succ', ← List.append_assoc]
          refine HSA.out.more ?_ hb9 hx30
          rw [HLR.out]
          exact hown9)
         clear hown9 hgrow9 hb9 hcat
         go_wp2_with fail
         go_roundw
         case rel => exact ⟨j + 1, q10, c10, by omega, by first | rfl | (push_cast; rfl), rfl, HNJ⟩
         case measure => simp [intOf]; omega
        ·have hjT2 : j = T := by omega
         subst hjT2
         have qj : decide ((j : Int) < (j : Int)) = false := by simp
         have qjn : decide (j < j) = false := by simp
         have HNS : Hid (LnI w g L (.slice q len cap) most n W X (.slice q9 (al + j) c9) wr) := Lib.hid (by
          have hla := HAL.out
          refine ⟨b2, all ++ List.replicate j (0 : Nat), HJ.out, ?_, by simp; omega, by simp [Yt1]; omega⟩
          have heq := HEQ4.out
          by_cases hov : n < all.length + j
          ·rw [if_pos hov] at heq
           exact .inr ⟨by simp; omega, heq.symm⟩
          ·rw [if_neg hov] at heq
           exact .inl ⟨by simp; omega, heq⟩)
         clear HJ hjT hj
         go_wp2_with fail
         go_roundw
         case rel => exact HNS
         case measure => simp only [Yt1]; omega
     ·obtain ⟨rfl, rfl, rfl⟩ := HC.out
      have HE : Hid (∀ m T : Nat, 1 + m = T → (1 : Int) + (m : Int) = (T : Int)) := Lib.hid (fun m T h => by omega)
      have HS8 := HS7
      obtain ⟨w8, hw8⟩ : ∃ V, V = w7 := ⟨_, rfl⟩
      rw [← hw8] at HS8 ⊢
      clear hw8 p0 p1 p2 p3 f0 f1 f2 f3
      go_upto_region 16 with (fail)
      clear HC HS7
      obtain ⟨p0, p1, p2, p3⟩ := HS8.out.bx.cells
      obtain ⟨f0, f1, f2, f3⟩ := HS8.out.bx.free
      rcases Y with c | ⟨m, b2⟩
      ·have hc2 := HNUC.out c rfl
       subst hc2
       have HX2 : Hid (X = .error 2) := Lib.hid HEQ3.out.symm
       go_wp2_with fail
       refine (HNUB.out 2 _ rfl).mono ?_
       rintro e w9 ⟨rfl, hb9⟩
       have HS9 := Lib.hid (fun O : Obj => HS8.out.keep (hb9.trans (((Below.refl _ w9).alloc (Nat.le_refl _) O).mono hb9.size)))
       clear p0 p1 p2 p3 f0 f1 f2 f3 hb9
       obtain ⟨t0, t1, t2, t3⟩ := (HS9.out (.cells #[.string (ds L), .int .i64 (b : Int), .slice q len cap, .int .i64 (most : Int)] 69)).rs.cells
       obtain ⟨u0, u1, u2, u3⟩ := (HS9.out (.cells #[.string (ds L), .int .i64 (b : Int), .slice q len cap, .int .i64 (most : Int)] 69)).rs.free
       obtain ⟨d1, d2⟩ := (HS9.out (.cells #[.string (ds L), .int .i64 (b : Int), .slice q len cap, .int .i64 (most : Int)] 69)).done b
       have D1 := Lib.hid d1
       have D2 := Lib.hid d2
       clear d1 d2
       go_wp2_with fail
       refine bodyPost_ret (Y0y rfl _ _ (g + 1) _ _ _ _ (0, 0) rfl D2.out) rfl ?_
       exact ⟨D1.out, .inr ⟨_, b, HX2.out, by decide, by decide, rfl⟩⟩
      ·obtain ⟨T, hT, hT1, hT2, hb2L⟩ := HMB.out m b2 rfl
       have eT := HE.out m T hT
       have HEQ4 := Lib.hid HEQ3.out
       rw [R.then_ok, hT] at HEQ4
       have HNM := Lib.hid (fun V => HNUM.out m b2 V rfl)
       clear HEQ3 HNUM HNUB HNUC HMB HE hT
       go_upto_region 17 with (go_at_call 35; refine (HNM.out _).mono ?_; rintro e w9 ⟨rfl, hb9⟩; have HB9 := Lib.hid hb9; clear hb9)
       have HS9 := Lib.hid (HS8.out.keep (HB9.out.trans (((Below.refl _ w9).alloc (Nat.le_refl _) (.cells #[.string (ds L), .int .i64 (b2 : Int), .slice q len cap, .int .i64 (most : Int)] 69)).mono HB9.out.size)))
       clear p0 p1 p2 p3 f0 f1 f2 f3 HB9 HNM
       obtain ⟨p0, p1, p2, p3⟩ := HS9.out.bx.cells
       obtain ⟨f0, f1, f2, f3⟩ := HS9.out.bx.free
       go_upto_region 20 with (fail)
       have HS10 := Lib.hid (HS9.out.put b2 hb2L)
       obtain ⟨w10, hw10⟩ : ∃ V, V = put4 (w9.alloc (.cells #[.string (ds L), .int .i64 (b2 : Int), .slice q len cap, .int .i64 (most : Int)] 69)) g (.string (ds L)) (.int .i64 (b2 : Int)) (.slice q len cap) (.int .i64 (most : Int)) := ⟨_, rfl⟩
       rw [← hw10] at HS10
       unfold put4 at hw10
       rw [← hw10]
       clear hw10 p0 p1 p2 p3 f0 f1 f2 f3 HS9 HS8
       have HAP : Hid (LnS w g L (.slice q len cap) most b2 _ (all ++ List.replicate 0 x) w10) := Lib.hid (by rw [List.replicate_zero, List.append_nil]; exact HS10.out)
       clear HS10
       go_wp2_with fail
       go_loopw [9, 19] (fun v8 i wq => ∃ (j : Nat) (q9 : Option Addr) (c9 : Nat), j ≤ T ∧ i = .int .i64 (j : Int) ∧ v8 = .slice q9 (al + j) c9 ∧ Hid (LnS w g L (.slice q len cap) most b2 (.slice q9 (al + j) c9) (all ++ List.replicate j x) wq)) (fun _ i _ => T - (intOf i).toNat)
       case atStart => exact ⟨0, _, c8, by omega, rfl, rfl, HAP⟩
       case round =>
        obtain ⟨j, q9, c9, hj, rfl, rfl, HJ⟩ := hrel
        by_cases hjT : j < T
        ·have qj : decide ((j : Int) < (T : Int)) = true := by simpa using hjT
         have qjn : decide (j < T) = true := by simpa using hjT
         have hlr : (all ++ List.replicate j x).length = al + j := by rw [List.length_append, List.length_replicate, HAL.out]
         have hlcat : (Y05 (all ++ List.replicate j x)).length = al + j := by rw [Y01]; exact hlr
         have hblk : (wr.alloc (.cells #[.int .i64 (x : Int)] 3)).heap[wr.heap.size]? = some (.cells #[.int .i64 (x : Int)] 3 (0, 0)) := Array.getElem?_push_size
         have hba : Below wr.heap.size wr (wr.alloc (.cells #[.int .i64 (x : Int)] 3)) := (Below.refl _ wr).alloc (Nat.le_refl _) _
         have HVX : Hid (VRow (wr.alloc (.cells #[.int .i64 (x : Int)] 3)) (wr.alloc (.cells #[.int .i64 (x : Int)] 3)).heap.size (some ⟨wr.heap.size, 0, none⟩) (ints [(x : Int)])) := Lib.hid (Y17 (vs := ints [(x : Int)]) hblk (by simp))
         have HSA := Lib.hid (HJ.out.keep hba)
         have hownj : (wr.alloc (.cells #[.int .i64 (x : Int)] 3)).ownsRow (g + 2) 3 1 (.slice q9 (al + j) c9) (al + j) (ints (Y05 (all ++ List.replicate j x))) := by
          have h1 := HSA.out.own
          unfold IOwn at h1
          rw [hlcat] at h1
          exact h1
         have HOJ := Lib.hid hownj
         have HBZ : Hid (g + 2 ≤ (wr.alloc (.cells #[.int .i64 (x : Int)] 3)).heap.size) := Lib.hid (by have := HSA.out.lt2; omega)
         have HLR := Lib.hid hlr
         clear hba hownj hblk hlcat hlr HJ
         go_wp2_with (at_builtin; refine Y0i Tryz.underlying74 hi hz0 hz1 hz2 rfl (by decide) rfl _ _ rfl (g + 2) _ (al + j) (ints (Y05 (all ++ List.replicate j x))) rfl HOJ.out (some ⟨wr.heap.size, 0, none⟩) 1 1 (ints [(x : Int)]) rfl HVX.out rfl (fun h => by cases h) Y46 (by omega) HBZ.out ?_)
         intro v9 w11 hown9 hgrow9 hb9
         have hcat : ints (Y05 (all ++ List.replicate j x)) ++ ints [(x : Int)] = ints (Y05 ((all ++ List.replicate j x) ++ [x])) := by
          rw [Y36 (all ++ List.replicate j x), Y2w]
          rfl
         rw [hcat] at hown9
         obtain ⟨q10, c10, rfl, _, _, _, _, _⟩ := Y18 hown9 (by rw [Y06, Y01, List.length_append, HLR.out]; rfl)
         have HNJ : Hid (LnS w g L (.slice q len cap) most b2 (.slice q10 (al + (j + 1)) c10) (all ++ List.replicate (j + 1) x) w11) := Lib.hid (by
          rw [List.replicate_succ', ← List.append_assoc]
          refine HSA.out.more ?_ hb9 hx30
          rw [HLR.out]
          exact hown9)
         clear hown9 hgrow9 hb9 hcat
         go_wp2_with fail
         go_roundw
         case rel => exact ⟨j + 1, q10, c10, by omega, by first | rfl | (push_cast; rfl), rfl, HNJ⟩
         case measure => simp [intOf]; omega
        ·have hjT2 : j = T := by omega
         subst hjT2
         have qj : decide ((j : Int) < (j : Int)) = false := by simp
         have qjn : decide (j < j) = false := by simp
         have HNS : Hid (LnI w g L (.slice q len cap) most n W X (.slice q9 (al + j) c9) wr) := Lib.hid (by
          have hla := HAL.out
          refine ⟨b2, all ++ List.replicate j x, HJ.out, ?_, by simp; omega, by simp [Yt1]; omega⟩
          have heq := HEQ4.out
          by_cases hov : n < all.length + j
          ·rw [if_pos hov] at heq
           exact .inr ⟨by simp; omega, heq.symm⟩
          ·rw [if_neg hov] at heq
           exact .inl ⟨by simp; omega, heq⟩)
         clear HJ hjT hj
         go_wp2_with fail
         go_roundw
         case rel => exact HNS
         case measure => simp only [Yt1]; omega
  ·have qln : decide (al < n) = false := by simp; omega
   have ql : decide ((al : Int) < (n : Int)) = false := by simp; omega
   obtain ⟨t0, t1, t2, t3⟩ := HS.out.rs.cells
   obtain ⟨u0, u1, u2, u3⟩ := HS.out.rs.free
   have D := Lib.hid (HS.out.done b0)
   by_cases hgt : n < al
   ·have qg : decide ((n : Int) < (al : Int)) = true := by simp; omega
    have qgn : decide (n < al) = true := by simp; omega
    have HX2 : Hid (X = .error 3) := Lib.hid (by
     rcases HRUN.out with h | h
     ·have := HAL.out; omega
     ·exact h.2)
    clear hgt hln
    go_wp2_with fail
    refine bodyPost_ret (Y0y rfl _ _ (g + 1) _ _ _ _ (0, 0) rfl D.out.2) rfl ?_
    exact ⟨D.out.1, .inr ⟨_, b0, HX2.out, by decide, by decide, rfl⟩⟩
   ·have hle : al = n := by omega
    subst hle
    have qg : decide ((al : Int) < (al : Int)) = false := by simp
    have qgn : decide (al < al) = false := by simp
    have HX2 : Hid (X = .ok (all, b0)) := Lib.hid (by
     rcases HRUN.out with h | h
     ·rw [← h.2]; exact Yfh W al _ b0 all HAL.out
     ·have := HAL.out; omega)
    have HFIN := Lib.hid (HS.out.fin (.string (ds L)) (.int .i64 (b0 : Int)) (.slice q len cap) (.int .i64 (most : Int)))
    clear hgt hln
    go_wp2_with fail
    refine bodyPost_ret (Y0y rfl _ _ (g + 1) _ _ _ _ (0, 0) rfl D.out.2) rfl ?_
    obtain ⟨qf, cf, ef, hf1, hf2, hf3, hf4⟩ := HFIN.out
    injection ef with e1 e2 e3
    subst e1 e3
    exact ⟨D.out.1, .inl ⟨all, b0, q8, c8, HX2.out, HS.out.le, HAL.out, HS.out.m30, rfl, hf3, hf1, by omega, hf4⟩⟩
end Go.Proofs.YtkkfkmoikcmhoaaGreat.Inf
namespace Go.Proofs.YtkkfkmoikcmhoaaGreat.Inf
open Go.RowKit Oct Bit Hf
set_option maxRecDepth 100000
def WoQ (w : World) (L : List Nat) (x : Except Nat (List (List Bool))) (e : Ending) (w' : World) : Prop :=
 Below w.heap.size w w' ∧ ((∃ q c, x = .ok (Y04 L) ∧ e = .returned (.tuple #[.slice q L.length c, .int .i64 0]) ∧ VRow w' w'.heap.size q (strs (Y3f (Y04 L))) ∧ (q = none → c = 0) ∧ ∀ ad, q = some ad → w.heap.size ≤ ad.block) ∨
  (x = .error 3 ∧ e = .returned (.tuple #[.slice none 0 0, .int .i64 3])))
set_option maxHeartbeats 4000000 in
theorem Y6f (p : Option Addr) (cap n : Nat) (L : List Nat) (full one : Bool) (w : World) (hr : VRow w w.heap.size p (ints (Y05 L))) (hn : L.length = n) (hL : ∀ m ∈ L, m ≤ 30) (hn3 : n ≤ 300) :
  Calls Tryz.prog 38 #[.slice p n cap, .bool full, .bool one] w (WoQ w L (Y6t L full one)) := by
 obtain ⟨X, hX⟩ : ∃ X, X = Y6t L full one := ⟨_, rfl⟩
 rw [← hX]
 have HCA := Lib.hid (Ymo p n cap (Y05 L) w hr (by rw [Y01]; exact hn) (by omega))
 have HR := Lib.hid hr
 have HN := Lib.hid hn
 have HL := Lib.hid hL
 clear hr hn hL
 by_cases hov : startN L 31 ≤ 1073741824
 ·have hX2 : X = if full = true ∧ startN L 31 ≠ 1073741824 ∧ ¬ (one = true ∧ lone L = true) then .error 3 else .ok (Y04 L) := by rw [hX]; unfold Y6t; rw [if_pos hov]
  have HX := Lib.hid hX2
  have HE := Lib.hid (Yod L HL.out hov)
  clear hov hX hX2
  go_enter Tryz.func38, Tryz.ntmps38
  go_wp2_with fail
  refine HCA.out.mono ?_
  rintro e w1 ⟨hb1, hres⟩
  rcases hres with ⟨hne, _⟩ | ⟨_, q, c, rfl, hv, hq0, hqc, hqm, hqa⟩
  ·exact absurd HE.out hne
  rw [Y3l] at hv
  rw [Y3l, Y01, HN.out]
  have HB1 := Lib.hid hb1
  have HV := Lib.hid hv
  have HQ0 := Lib.hid hq0
  have HQA := Lib.hid hqa
  obtain ⟨all, hall⟩ : ∃ all, all = decide (startN L 31 = 1073741824) := ⟨_, rfl⟩
  rw [← hall]
  have HALL := Lib.hid hall
  clear hb1 hv hq0 hqc hqm hqa hall
  go_wp2_with fail
  go_loop [11, 12, 13] (fun s u i => ∃ k : Nat, k ≤ n ∧ i = .int .i64 (k : Int) ∧ s = .int .i64 (((L.take k).sum : Nat) : Int) ∧ u = .int .i64 (((L.take k).countP (fun n => decide (0 < n)) : Nat) : Int) ∧ (L.take k).sum ≤ 30 * k ∧ (L.take k).countP (fun n => decide (0 < n)) ≤ k) (fun s u i => n - (intOf i).toNat)
  case atStart => exact ⟨0, by omega, rfl, rfl, rfl, by simp, by simp⟩
  case round =>
   obtain ⟨k, hk, rfl, rfl, rfl, hs, hu⟩ := hrel
   by_cases hlt : k < n
   ·have ql : decide ((k : Int) < (n : Int)) = true := by simpa using hlt
    have i1 : (0 : Int) ≤ (k : Int) := by omega
    have i2 : (k : Int) < (n : Int) := by omega
    have hkL : k < L.length := by rw [HN.out]; exact hlt
    obtain ⟨b, off, rfl, hbl⟩ := HR.out.addr (by rw [Y06, Y01]; omega)
    have hc := (HB1.out.cell (p := ⟨b, off + k, none⟩) hbl).trans (HR.out.int k (by rw [Y01]; exact hkL))
    have hz : (Y05 L)[k]'(by rw [Y01]; exact hkL) = (L[k] : Int) := by simp [Y05]
    rw [hz] at hc
    have HST := Lib.hid (Yvy L k hkL)
    have HCT := Lib.hid (Yhg L k hkL)
    have h30 := HL.out _ (List.getElem_mem hkL)
    generalize hx : L[k] = x at hc h30 HST HCT
    generalize (L.take k).sum = s at hs HST
    generalize (L.take k).countP (fun n => decide (0 < n)) = u at hu HCT
    have hsb : s ≤ 9000 := by omega
    have hub : u ≤ 300 := by omega
    clear hz hx
    by_cases hx0 : 0 < x
    ·have qx : decide (0 < (x : Int)) = true := by simpa using hx0
     have qxn : decide (0 < x) = true := by simpa using hx0
     rw [if_pos hx0] at HCT
     go_wp2_with fail
     go_round
     case rel => exact ⟨k + 1, by omega, by go_num, by rw [HST.out]; first | rfl | (push_cast; rfl), by rw [HCT.out]; first | rfl | (push_cast; rfl), by rw [HST.out]; omega, by rw [HCT.out]; omega⟩
     case measure => simp [intOf]; omega
    ·have qx : decide (0 < (x : Int)) = false := by simp; omega
     have qxn : decide (0 < x) = false := by simp; omega
     rw [if_neg hx0] at HCT
     go_wp2_with fail
     go_round
     case rel => exact ⟨k + 1, by omega, by go_num, by rw [HST.out]; first | rfl | (push_cast; rfl), by rw [HCT.out, Nat.add_zero], by rw [HST.out]; omega, by rw [HCT.out]; omega⟩
     case measure => simp [intOf]; omega
   ·have hkn : k = n := by omega
    subst hkn
    have ql : decide ((k : Int) < (k : Int)) = false := by simp
    have hfin : L.take k = L := by rw [← HN.out, List.take_length]
    rw [hfin] at hs hu ⊢
    have hlo : lone L = (L.countP (fun n => decide (0 < n)) == 0 || (L.countP (fun n => decide (0 < n)) == 1 && L.sum == 1)) := rfl
    have HLO := Lib.hid hlo
    generalize L.sum = s at hs HLO ⊢
    generalize L.countP (fun n => decide (0 < n)) = u at hu HLO ⊢
    clear hfin hlo
    have HOKP : Hid (X = .ok (Y04 L) → WoQ w L X (.returned (.tuple #[.slice q k c, .int .i64 0])) w1) := Lib.hid fun hx => ⟨HB1.out, .inl ⟨q, c, hx, by rw [HN.out], HV.out, HQ0.out, HQA.out⟩⟩
    have HBAD : Hid (X = .error 3 → WoQ w L X (.returned (.tuple #[.slice none 0 0, .int .i64 3])) w1) := Lib.hid fun hx => ⟨HB1.out, .inr ⟨hx, rfl⟩⟩
    have hcase : (((u : Int) == 0) = true ∧ lone L = true) ∨ (((u : Int) == 0) = false ∧ ((u : Int) == 1) = true ∧ ((s : Int) == 1) = true ∧ lone L = true) ∨
      (((u : Int) == 0) = false ∧ ((u : Int) == 1) = true ∧ ((s : Int) == 1) = false ∧ lone L = false) ∨ (((u : Int) == 0) = false ∧ ((u : Int) == 1) = false ∧ lone L = false) := by
     rw [HLO.out]
     by_cases hu0 : u = 0
     ·left; subst hu0; exact ⟨rfl, rfl⟩
     ·right
      have q0 : ((u : Int) == 0) = false := by simp; omega
      have e0 : (u == 0) = false := by simpa using hu0
      by_cases hu1 : u = 1
      ·subst hu1
       by_cases hs1 : s = 1
       ·left; subst hs1; exact ⟨rfl, rfl, rfl, rfl⟩
       ·right; left
        have q2 : ((s : Int) == 1) = false := by simp; omega
        have e2 : (s == 1) = false := by simpa using hs1
        exact ⟨rfl, rfl, q2, by rw [e2]; rfl⟩
      ·right; right
       have q1 : ((u : Int) == 1) = false := by simp; omega
       have e1 : (u == 1) = false := by simpa using hu1
       exact ⟨q0, q1, by rw [e0, e1]; rfl⟩
    have hx2 := HX.out
    have hal := HALL.out
    rcases hcase with ⟨q0, hll⟩ | ⟨q0, q1, q2, hll⟩ | ⟨q0, q1, q2, hll⟩ | ⟨q0, q1, hll⟩
    all_goals
     rw [hll] at hx2
     cases full
     ·have HR1 := Lib.hid (HOKP.out (by rw [hx2, if_neg (by rintro ⟨h, _⟩; cases h)]))
      clear hx2 hal hll
      go_wp2_with fail
      go_ret2
      exact HR1.out
     ·cases all
      ·have hne : startN L 31 ≠ 1073741824 := of_decide_eq_false hal.symm
       cases one
       ·have HR1 := Lib.hid (HBAD.out (by rw [hx2, if_pos ⟨rfl, hne, by rintro ⟨h, _⟩; cases h⟩]))
        clear hx2 hal hne hll
        go_wp2_with fail
        go_ret2
        exact HR1.out
       ·first
        | (have HR1 := Lib.hid (HBAD.out (by rw [hx2, if_pos ⟨rfl, hne, by rintro ⟨_, h⟩; cases h⟩]))
           clear hx2 hal hne hll
           go_wp2_with fail
           go_ret2
           exact HR1.out)
        | (have HR1 := Lib.hid (HOKP.out (by rw [hx2, if_neg (by rintro ⟨_, _, h⟩; exact h ⟨rfl, rfl⟩)]))
           clear hx2 hal hne hll
           go_wp2_with fail
           go_ret2
           exact HR1.out)
      ·have heq : startN L 31 = 1073741824 := of_decide_eq_true hal.symm
       have HR1 := Lib.hid (HOKP.out (by rw [hx2, if_neg (by rintro ⟨_, h, _⟩; exact h heq)]))
       clear hx2 hal heq hll
       go_wp2_with fail
       go_ret2
       exact HR1.out
 ·have HX : Hid (X = .error 3) := Lib.hid (by rw [hX]; unfold Y6t; rw [if_neg hov])
  have HE := Lib.hid (Yoe L HL.out hov)
  clear hov hX
  go_enter Tryz.func38, Tryz.ntmps38
  go_wp2_with fail
  refine HCA.out.mono ?_
  rintro e w1 ⟨hb1, hres⟩
  rcases hres with ⟨_, rfl⟩ | ⟨he, _⟩
  ·rw [HE.out]
   have HB1 := Lib.hid hb1
   clear hb1
   go_wp2_with fail
   go_ret2
   exact ⟨HB1.out, .inr ⟨HX.out, rfl⟩⟩
  ·rw [HE.out] at he; cases he
theorem Y6n {S : Nat → Prop} {w w' : World} {C : Nat} {q : Option Addr} {vs : List Value} (h : VRow w C q vs) (ho : Only S w w') (hs : ∀ ad, q = some ad → ¬ S ad.block) (hC : C ≤ w.heap.size) : VRow w' C q vs := by
 intro hp
 obtain ⟨b, off, rfl, hlt, hc⟩ := h hp
 exact ⟨b, off, rfl, hlt, fun i hi => (World.cell?_of_block (w := w) (ho.2.2.2.2 b (by omega) (hs _ rfl))).trans (hc i hi)⟩
theorem Yd2 (l : List Nat) (h : ∀ m ∈ l, m ≤ 30) : ∀ m ∈ Y04 l, m.length ≤ 30 := by
 intro m hm
 obtain ⟨i, hi, rfl⟩ := List.getElem_of_mem hm
 have hi' : i < l.length := by rw [Y0c] at hi; exact hi
 rw [Y2a l i hi hi']
 exact h _ (List.getElem_mem hi')
end Go.Proofs.YtkkfkmoikcmhoaaGreat.Inf
namespace Go.Proofs.YtkkfkmoikcmhoaaGreat.Inf
open Go.RowKit Oct Bit Hf
set_option maxRecDepth 100000
section
variable {w wr w6 : World} {g : Nat} {L : List Bool} {v : Value} {most b : Nat} {all : List Nat} {q : Option Addr} {n cap : Nat} {X : R (List UInt8)}
theorem LnS.err {c : Nat} (h : LnS w g L (.slice q n cap) most b v all wr) (hX : X = .error c) (hc0 : c ≠ 0) (hc8 : c ≤ 8) (b2 : Nat) :
  StP w (.slice q n cap) L most X (.returned (.tuple #[.agg #[.string (ds L), .int .i64 (b2 : Int), .slice q n cap, .int .i64 (most : Int)], .int .i64 (c : Int)])) (put4 wr (g + 1) (.string (ds L)) (.int .i64 (b2 : Int)) (.slice q n cap) (.int .i64 (most : Int))) :=
 ⟨b2, q, n, cap, Only.of_below (h.done b2).1, fun k hk => .inl hk, .inr ⟨c, hX, hc0, hc8, rfl⟩⟩
theorem LnS.err2 {c : Nat} (h : LnS w g L (.slice q n cap) most b v all wr) (hX : X = .error c) (hc0 : c ≠ 0) (hc8 : c ≤ 8) (b2 : Nat) (u0 u1 u2 u3 : Value) :
  StP w (.slice q n cap) L most X (.returned (.tuple #[.agg #[.string (ds L), .int .i64 (b2 : Int), .slice q n cap, .int .i64 (most : Int)], .int .i64 (c : Int)])) (put4 (put4 wr g u0 u1 u2 u3) (g + 1) (.string (ds L)) (.int .i64 (b2 : Int)) (.slice q n cap) (.int .i64 (most : Int))) ∧
  Bx (put4 (put4 wr g u0 u1 u2 u3) (g + 1) (.string (ds L)) (.int .i64 (b2 : Int)) (.slice q n cap) (.int .i64 (most : Int))) (g + 1) (.string (ds L)) (.int .i64 (b2 : Int)) (.slice q n cap) (.int .i64 (most : Int)) :=
 ⟨⟨b2, q, n, cap, Only.of_below (Y1w (Y1w (by rw [h.hg]; exact h.bl) (by rw [h.hg]; exact Nat.le_refl _) _ _ _ _) (by rw [h.hg]; omega) _ _ _ _), fun k hk => .inl hk, .inr ⟨c, hX, hc0, hc8, rfl⟩⟩, (h.rs.far (by omega) _ _ _ _).put _ _ _ _⟩
theorem LnS.out (h : LnS w g L (.slice q n cap) most b v all wr) (hlt : ∀ k, (Value.slice q n cap).ownBlock = some k → k < g) {e : Ending} (hst : StP wr (.slice q n cap) L most X e w6) :
  ∃ (a : Nat) (q6 : Option Addr) (n6 c6 cc : Nat), e = .returned (.tuple #[.agg #[.string (ds L), .int .i64 (a : Int), .slice q6 n6 c6, .int .i64 (most : Int)], .int .i64 (cc : Int)]) ∧
   Bx w6 (g + 1) (.string ByteArray.empty) (.int .i64 0) (.slice none 0 0) (.int .i64 0) ∧
   StP w (.slice q n cap) L most X e (put4 w6 (g + 1) (.string (ds L)) (.int .i64 (a : Int)) (.slice q6 n6 c6) (.int .i64 (most : Int))) := by
 obtain ⟨a, q6, n6, c6, ho, hfr, hres⟩ := hst
 have hgw := h.hg
 have hz := h.lt2
 have hr6 : Bx w6 (g + 1) (.string ByteArray.empty) (.int .i64 0) (.slice none 0 0) (.int .i64 0) := h.rs.only ho (fun e => by have := hlt _ e; omega)
 have hone : Only (fun k => (Value.slice q n cap).ownBlock = some k) w w6 := (Only.of_below (by rw [h.hg]; exact h.bl)).trans ho
 have hsep : ∀ k, (Value.slice q6 n6 c6).ownBlock = some k → k ≠ g + 1 := fun k hk => by
  rcases hfr k hk with e | e
  ·have := hlt k e; omega
  ·omega
 have hon2 : Only (fun k => (Value.slice q n cap).ownBlock = some k) w (put4 w6 (g + 1) (.string (ds L)) (.int .i64 (a : Int)) (.slice q6 n6 c6) (.int .i64 (most : Int))) := Y4v hone (by omega) _ _ _ _
 have hfr2 : ∀ k, (Value.slice q6 n6 c6).ownBlock = some k → (Value.slice q n cap).ownBlock = some k ∨ w.heap.size ≤ k := fun k hk => by
  rcases hfr k hk with e | e
  ·exact .inl e
  ·right; omega
 rcases hres with ⟨o, h1, h2, h2m, h3, rfl⟩ | ⟨c, h1, h2, h3, rfl⟩
 ·exact ⟨a, q6, n6, c6, 0, rfl, hr6, a, q6, n6, c6, hon2, hfr2, .inl ⟨o, h1, h2, h2m, Y4b h3 hsep _ _ _ _, rfl⟩⟩
 ·exact ⟨a, q6, n6, c6, c, rfl, hr6, a, q6, n6, c6, hon2, hfr2, .inr ⟨c, h1, h2, h3, rfl⟩⟩
end
theorem Ymn (V : World) (n : Nat) (u0 u1 u2 u3 : Value) (m : Nat) (h : n ≠ m) : (put4 V n u0 u1 u2 u3).heap[m]? = V.heap[m]? := by
 unfold put4
 rw [Below.heap_setCell _ _ _ _ (by show m ≠ n; omega), Below.heap_setCell _ _ _ _ (by show m ≠ n; omega), Below.heap_setCell _ _ _ _ (by show m ≠ n; omega), Below.heap_setCell _ _ _ _ (by show m ≠ n; omega)]
theorem Yr3 (V : World) (n : Nat) (u0 u1 u2 u3 : Value) : (put4 V n u0 u1 u2 u3).heap.size = V.heap.size := by
 unfold put4
 simp [World.setCell]
theorem Ysl {V : World} {n C : Nat} {q : Option Addr} {vs : List Value} (h : VRow V C q vs) (hs : ∀ ad : Addr, q = some ad → n ≠ ad.block) (u0 u1 u2 u3 : Value) : VRow (put4 V n u0 u1 u2 u3) C q vs := by
 intro hp
 obtain ⟨b, off, e, hlt, hc⟩ := h hp
 have hn : n ≠ b := by
  have := hs _ e
  exact this
 refine ⟨b, off, e, hlt, fun i hi => ?_⟩
 rw [← hc i hi]
 exact Y3a V n u0 u1 u2 u3 ⟨b, off + i, none⟩ hn
theorem LnS.setH {w wr : World} {g : Nat} {L : List Bool} {V : Value} {most b : Nat} (h : LnS w g L V most b (.slice none 0 0) [] wr) (H s : Nat) (hH : g + 1 < H) (u : Value) : LnS w g L V most b (.slice none 0 0) [] (wr.setCell ⟨H, s, none⟩ u) where
 bx := h.bx.set1 (by omega) _
 rs := h.rs.set1 (by omega) _
 own := World.ownsRow_nil _ _ 3 1
 bl := h.bl.setCell (p := ⟨H, s, none⟩) (by show g ≤ H; omega) _
 hg := h.hg
 m30 := by simp
 le := h.le
def MdS (w : World) (g : Nat) (L : List Bool) (V : Value) (most : Nat) (X1 : R (List Nat)) (H k j : Nat) (wr : World) : Prop :=
 ∃ b l, LnS w g L V most b (.slice none 0 0) [] wr ∧ wr.heap[H]? = some (.cells (ints (Y05 l)).toArray 3 (0, 0)) ∧ g + 1 < H ∧ l.length = 19 ∧ (∀ m ∈ l, m ≤ 30) ∧ Y8q L (k - j) j b l = X1
theorem MdS.next {w wr w8 : World} {g : Nat} {L : List Bool} {V : Value} {most b b2 m s : Nat} {X1 : R (List Nat)} {H k j : Nat} {l : List Nat} (h : LnS w g L V most b (.slice none 0 0) [] wr) (hb : Below wr.heap.size wr w8) (hblk : wr.heap[H]? = some (.cells (ints (Y05 l)).toArray 3 (0, 0)))
  (hH : g + 1 < H) (hHz : H < wr.heap.size) (hll : l.length = 19) (hlm : ∀ m ∈ l, m ≤ 30) (hm : m ≤ 30) (hb2 : b2 ≤ L.length) (hr : Y8q L (k - (j + 1)) (j + 1) b2 (l.set s m) = X1) :
  MdS w g L V most X1 H k (j + 1) (put4 (w8.setCell ⟨H, s, none⟩ (.int .i64 (m : Int))) g (.string (ds L)) (.int .i64 (b2 : Int)) V (.int .i64 (most : Int))) := by
 refine ⟨b2, l.set s m, ((h.keep hb).setH H s hH _).put b2 hb2, ?_, hH, by rw [List.length_set]; exact hll, fun x hx => ?_, hr⟩
 ·rw [Ymn _ _ _ _ _ _ _ (by omega), ← Yog]
  exact Ytg ((hb.block H hHz).trans hblk) s _
 ·rcases List.mem_or_eq_of_mem_set hx with h1 | h1
  ·exact hlm x h1
  ·omega
theorem Y5g {β : Type} (W : List (List Bool)) (f : List (List Bool) → R β) : withW (.ok W) f = f W := rfl
theorem Ybn {β : Type} (c : Nat) (f : List (List Bool) → R β) : withW (.error c) f = .error c := rfl
end Go.Proofs.YtkkfkmoikcmhoaaGreat.Inf
