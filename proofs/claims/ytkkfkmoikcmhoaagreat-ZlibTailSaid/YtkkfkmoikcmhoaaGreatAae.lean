/- LtG: merged. -/
import Derived.Test.YtkkfkmoikcmhoaaGreatAad
set_option linter.unusedVariables false
set_option linter.unusedSimpArgs false
namespace Go.Proofs.YtkkfkmoikcmhoaaGreat.Lzt
open Go.RowKit Oct
set_option maxRecDepth 100000
theorem TOwn.only {S : Nat → Prop} {w w' : World} {base : Nat} {v : Value} {l : List Tok} (h : TOwn w base v l) (ho : Only S w w') (hS : ∀ k, base ≤ k → ¬ S k) : TOwn w' base v l := by
 refine ⟨h.1, ?_⟩
 rcases h.2 with hn | ⟨g, cap, cur, rfl, hbs, hh, r⟩
 ·exact .inl hn
 ·refine .inr ⟨g, cap, cur, rfl, hbs, ?_, r⟩
  have hlt : g < w.heap.size := by
   rcases Nat.lt_or_ge g w.heap.size with hlt | hge
   ·exact hlt
   ·rw [Array.getElem?_eq_none hge] at hh; cases hh
  exact (ho.2.2.2.2 g hlt (hS g hbs)).trans hh
theorem TOwn.lt {w : World} {base : Nat} {v : Value} {l : List Tok} (h : TOwn w base v l) {k : Nat} (hk : v.ownBlock = some k) : base ≤ k ∧ k < w.heap.size := World.ownsRow.lt h k hk
def Plain (t : Tok) : Prop := (t.len = 0 → t.dist = 0) ∧ (t.len ≠ 0 → t.lit = 0)
theorem Ywi {xs : List UInt8} {a most : Nat} {t : Tok} (h : Y59 xs a most t) (hm : most ≤ 258) : Yn6 t ∧ Plain t := by
 rcases h with ⟨h1, h2, _⟩ | ⟨n, d, rfl, h1, h2, h3, h4, _⟩
 ·exact ⟨⟨by omega, by omega, by omega, by omega⟩, fun _ => h2, fun e => absurd h1 e⟩
 ·refine ⟨⟨?_, ?_, ?_, ?_⟩, fun e => ?_, fun _ => rfl⟩
  ·show -9223372036854775808 ≤ (n : Int); omega
  ·show (n : Int) ≤ 9223372036854775807; omega
  ·show -9223372036854775808 ≤ (d : Int); omega
  ·show (d : Int) ≤ 9223372036854775807; omega
  ·have e' : (n : Int) = 0 := e
   omega
theorem Yor {xs : List UInt8} {i : Nat} {t : Tok} {l : List Tok} (h : Y59 xs i (min (xs.length - i) 258) t) (he : Y83 xs.length l [] = .ok (xs.take i)) :
  ∃ S : Nat, max t.len 1 = (S : Int) ∧ 1 ≤ S ∧ i + S ≤ xs.length ∧ Y83 xs.length (l ++ [t]) [] = .ok (xs.take (i + S)) := by
 rcases h with ⟨h1, h2, hi, h3⟩ | ⟨n, d, rfl, h1, h2, h3, h4, h5, h6⟩
 ·refine ⟨1, by rw [h1]; rfl, Nat.le_refl _, hi, ?_⟩
  have : t = ⟨xs[i], 0, 0⟩ := by
   obtain ⟨a, b, c⟩ := t
   simp only at h1 h2 h3
   rw [h1, h2, h3]
  rw [this]
  exact Yuo he hi (by omega)
 ·refine ⟨n, ?_, by omega, by omega, Yr2 he h1 (by omega) h3 h4 h5 (by omega) (by omega) (Yqh h5 (by omega) h6)⟩
  show max (n : Int) 1 = (n : Int)
  omega
def Yyi (w : World) (K : Fdr) (i : Nat) : Prop := 1 ≤ i → i + 2 ≤ K.xs.length → w.cell? ⟨K.g, markK K (i - 1), none⟩ = some (.int .i64 ((i - 1 : Nat) : Int))
theorem Yyi.below {w w' : World} {K : Fdr} {i B : Nat} (h : Yyi w K i) (hb : Below B w w') (hg : K.g < B) : Yyi w' K i := fun h1 h2 => (hb.cell (p := ⟨K.g, markK K (i - 1), none⟩) hg).trans (h h1 h2)
def EqL (xs : List UInt8) (i : Nat) (l : List Tok) : Prop := ∀ c, xs = List.replicate xs.length c → (i = 0 → l = []) ∧ (1 ≤ i → l ++ Y2f c (xs.length - i) = Y0k c xs.length)
theorem Yo3 (c : UInt8) : ∀ a b : Nat, b ≤ a → eqN (List.replicate a c) (List.replicate b c) = b
 | a, 0, h => by simp [Yo5]
 | a + 1, b + 1, h => by
  rw [List.replicate_succ, List.replicate_succ, Yj0, if_pos rfl, Yo3 c a b (by omega)]
 | 0, b + 1, h => by omega
theorem Yt9 (K : Fdr) (c : UInt8) (h : K.xs = List.replicate K.xs.length c) (i j : Nat) (hi : i + 3 ≤ K.xs.length) (hj : j + 3 ≤ K.xs.length) : markK K i = markK K j := by
 have hg : ∀ k, k < K.xs.length → K.xs.getD k 0 = c := fun k hk => by
  rw [h, List.getD_eq_getElem?_getD, List.getElem?_replicate, if_pos hk]
  rfl
 unfold markK
 rw [hg i (by omega), hg (i + 1) (by omega), hg (i + 2) (by omega), hg j (by omega), hg (j + 1) (by omega), hg (j + 2) (by omega)]
theorem Ywc {w : World} {K : Fdr} {i S : Nat} {l : List Tok} {t : Tok} (h : EqL K.xs i l) (hi : i < K.xs.length) (hg : Y59 K.xs i (min (K.xs.length - i) 258) t) (hf : Fin0 w K i (min (K.xs.length - i) 258) t) (hl : Yyi w K i) (hS : max t.len 1 = (S : Int)) :
  EqL K.xs (i + S) (l ++ [t]) := by
 intro c hc
 obtain ⟨h0, h1⟩ := h c hc
 have hS1 : 1 ≤ S := by omega
 refine ⟨fun e => by omega, fun _ => ?_⟩
 have hlit : (i = 0 ∨ K.xs.length < i + 3) → t = ⟨c, 0, 0⟩ ∧ S = 1 := fun hor => by
  rcases hg with ⟨g1, g2, gi, g3⟩ | ⟨n, d, rfl, g1, g2, g3, g4, g5, _⟩
  ·obtain ⟨x, n, d⟩ := t
   simp only at g1 g2 g3
   refine ⟨?_, ?_⟩
   ·rw [g1, g2, g3]
    congr 1
    have : K.xs[i]? = some c := by
     rw [hc, List.getElem?_replicate, if_pos hi]
    rw [List.getElem?_eq_getElem hi] at this
    injection this
   ·simp only at hS
    rw [g1] at hS
    have : (1 : Int) = (S : Int) := hS
    omega
  ·omega
 by_cases hi0 : i = 0
 ·subst hi0
  obtain ⟨e1, e2⟩ := hlit (.inl rfl)
  rw [h0 rfl, e1, e2]
  unfold Y0k
  rw [if_neg (by omega)]
  rfl
 ·by_cases hsm : K.xs.length < i + 3
  ·obtain ⟨e1, e2⟩ := hlit (.inr hsm)
   rw [← h1 (by omega), e1, e2, Y1f _ _ (by omega), Y1f _ _ (by omega), List.append_assoc]
   congr 1
   rw [show K.xs.length - i = (K.xs.length - (i + 1)) + 1 from by omega, List.replicate_succ]
   rfl
  ·have hm := Yt9 K c hc i (i - 1) (by omega) (by omega)
   have hb : Best0 w K i (min (K.xs.length - i) 258) (i - 1) := by
    refine ⟨?_, by omega, by omega, by omega, ?_⟩
    ·unfold Y3s
     rw [if_neg hsm, hm]
     exact hl (by omega) (by omega)
    ·rw [hc, List.drop_replicate, List.drop_replicate, List.take_replicate, List.length_replicate, Yo3 c _ _ (by omega)]
     omega
   have ht := hf _ hb
   rw [show i - (i - 1) = 1 from by omega] at ht
   have hS2 : S = min (K.xs.length - i) 258 := by
    rw [ht] at hS
    simp only at hS
    omega
   rw [← h1 (by omega), ht, Y7s c (K.xs.length - i) (by omega), List.append_assoc, hS2]
   congr 1
   rw [show K.xs.length - (i + min (K.xs.length - i) 258) = K.xs.length - i - min (K.xs.length - i) 258 from by omega]
   rfl
structure Tel (w : World) (K : Fdr) (B i : Nat) (v : Value) (l : List Tok) (wr : World) : Prop where
 fi : Fi wr K i
 bel : Below w.heap.size w wr
 own : TOwn wr B v l
 ex : Y83 K.xs.length l [] = .ok (K.xs.take i)
 ok : ∀ t ∈ l, Yn6 t ∧ Plain t
 le : i ≤ K.xs.length
 lat : Yyi wr K i
 eq : EqL K.xs i l
 hd : K.d < B
 hg : K.g < B
 hh : K.h < B
 hB : B ≤ wr.heap.size
 hC : K.C = w.heap.size
theorem Tel.count {w wr : World} {K : Fdr} {B i : Nat} {v : Value} {l : List Tok} (h : Tel w K B i v l wr) : l.length ≤ 100000 := by
 have h1 := Y76 _ _ _ h.ex
 have h2 := h.fi.n2
 rw [List.length_take] at h1
 simp at h1
 omega
structure Ent (w : World) (K : Fdr) (B i : Nat) (v : Value) (l : List Tok) (wr : World) : Prop where
 fi : Fi wr K i
 bel : Below w.heap.size w wr
 own : TOwn wr B v l
 lat : Yyi wr K i
 hd : K.d < B
 hg : K.g < B
 hh : K.h < B
 hB : B ≤ wr.heap.size
theorem Ent.enter {w wr wr' : World} {K : Fdr} {B i : Nat} {v : Value} {l : List Tok} (h : Ent w K B i v l wr) (hC : K.C = w.heap.size) (hf : Fi wr' K (i + 1)) (ho : Only (Yry K) wr wr') (hla : i + 3 ≤ K.xs.length → wr'.cell? ⟨K.g, markK K i, none⟩ = some (.int .i64 (i : Int))) : Ent w K B (i + 1) v l wr' := by
 have h1 := h.hd
 have h2 := h.hg
 have h3 := h.hh
 have h4 := hf.Cd
 have h5 := hf.Cg
 have h6 := hf.Ch
 refine ⟨hf, h.bel.trans (ho.below h.bel.size fun k hk e => ?_), h.own.only ho fun k hk e => ?_, fun _ hi => hla (by omega), h1, h2, h3, Nat.le_trans h.hB ho.2.2.2.1⟩
 ·rcases e with e | e | e <;> omega
 ·rcases e with e | e | e <;> omega
def TokP (w : World) (xs : List UInt8) (e : Ending) (w' : World) : Prop :=
 ∃ q c l, e = .returned (.slice q l.length c) ∧ (q = none → c = 0) ∧ l.length ≤ c ∧ c ≤ maxLen ∧ Toks w' w'.heap.size q l ∧ (∀ a, q = some a → w.heap.size ≤ a.block) ∧
  Y83 xs.length l [] = .ok xs ∧ (∀ t ∈ l, Plain t) ∧ Below w.heap.size w w' ∧ ∀ c, xs = List.replicate xs.length c → l = Y0k c xs.length
theorem Tel.done {w wr : World} {K : Fdr} {B : Nat} {v : Value} {l : List Tok} (h : Tel w K B K.xs.length v l wr) (hB : w.heap.size ≤ B) : TokP w K.xs (.returned v) wr := by
 obtain ⟨q, c, rfl, h1, h2, h3, h4, h5⟩ := h.own.shape fun t ht => (h.ok t ht).1
 refine ⟨q, c, l, rfl, h1, h2, h3, h4, fun a ha => Nat.le_trans hB (h5 a ha), ?_, fun t ht => (h.ok t ht).2, h.bel, fun x hx => ?_⟩
 ·have := h.ex
  rwa [List.take_length] at this
 ·obtain ⟨e0, e1⟩ := h.eq x hx
  by_cases hz : K.xs.length = 0
  ·rw [e0 hz]
   unfold Y0k
   rw [if_pos hz]
  ·have := e1 (by omega)
   rw [Nat.sub_self, Y1f _ _ (by decide)] at this
   simpa using this
set_option maxHeartbeats 4000000 in
theorem Ycb (p : Option Addr) (n cap : Nat) (xs : List UInt8) (w : World) (hr : Row w p xs) (hx : xs.length = n) (hn : n ≤ 100000) (hc : n ≤ cap) (hc2 : cap ≤ maxLen) :
  Calls Tryz.prog 46 #[.slice p n cap] w (TokP w xs) := by
 have HNEW := Lib.hid (Yx0 p n cap xs w hr hx hn hc hc2)
 have HX := Lib.hid hx
 clear hr hx hc hc2
 go_enter Tryz.func46, Tryz.ntmps46
 go_wp2_with fail
 refine HNEW.out.mono ?_
 rintro e w1 ⟨K, hKx, hKC, rfl, hF, hb1, hd1, hg1, hh1⟩
 subst hKx
 have HT0 : Hid (Tel w K w1.heap.size 0 (.slice none 0 0) [] w1) := Lib.hid ⟨hF, hb1, ⟨rfl, .inl ⟨rfl, rfl⟩⟩, rfl, fun t ht => absurd ht (by simp), Nat.zero_le _, fun h => by omega, fun c hc => ⟨fun _ => rfl, fun h => by omega⟩, hd1, hg1, hh1, Nat.le_refl _, hKC⟩
 have HB1 := Lib.hid hb1.size
 have HKC := Lib.hid hKC
 clear hKC hF hb1 hd1 hg1 hh1 HNEW
 go_wp2_with fail
 go_loopw [3, 5] (fun s i wr => ∃ (k : Nat) (v : Value) (l : List Tok), k ≤ n ∧ i = .int .i64 (k : Int) ∧ s = v ∧ Hid (Tel w K w1.heap.size k v l wr)) (fun _ i _ => n - (intOf i).toNat)
 case atStart => exact ⟨0, _, [], by omega, rfl, rfl, HT0⟩
 case round =>
  obtain ⟨k, s, l, hk, rfl, hsv, HT⟩ := hrel
  have hsv2 := hsv.symm
  subst hsv2
  clear hsv HT0
  by_cases hlt : k < n
  ·have ql : decide ((k : Int) < (n : Int)) = true := by simpa using hlt
   have HLG := Lib.hid (Yho K k wr HT.out.fi (by rw [HX.out]; exact hlt) ⟨by have := HT.out.hd; have := HT.out.hB; omega, by have := HT.out.hg; have := HT.out.hB; omega, by have := HT.out.hh; have := HT.out.hB; omega⟩)
   go_wp2_with fail
   refine HLG.out.mono ?_
   rintro e w2 ⟨t, hgood, rfl, hf2, hb2, hfin⟩
   obtain ⟨S, hS, hS1, hS2, hex⟩ := Yor hgood HT.out.ex
   have htok := Ywi hgood (by omega)
   have HEQ := Lib.hid (Ywc HT.out.eq (by rw [HX.out]; exact hlt) hgood hfin HT.out.lat hS)
   have hb4 : Below w2.heap.size w2 ((w2.alloc (.cells #[.int .u8 (t.lit.toNat : Int), .int .i64 t.len, .int .i64 t.dist] 134)).alloc (.cells #[.int .u8 (t.lit.toNat : Int), .int .i64 t.len, .int .i64 t.dist] 134)) :=
    (Y0i w2 _).trans ((Y0i _ _).mono (by rw [Y0c]; exact Nat.le_succ _))
   have hz2 := hb2.size
   have hb5 : Below wr.heap.size wr ((w2.alloc (.cells #[.int .u8 (t.lit.toNat : Int), .int .i64 t.len, .int .i64 t.dist] 134)).alloc (.cells #[.int .u8 (t.lit.toNat : Int), .int .i64 t.len, .int .i64 t.dist] 134)) := hb2.trans (hb4.mono hz2)
   have HO4 := Lib.hid (HT.out.own.below hb5)
   have HB4 := Lib.hid hb5
   have HR4 := Lib.hid (Yxb (w2.alloc (.cells #[.int .u8 (t.lit.toNat : Int), .int .i64 t.len, .int .i64 t.dist] 134)) t htok.1)
   rw [Y0c w2] at HR4
   have HTB : Hid (∀ V, Only (fun j => s.ownBlock = some j) ((w2.alloc (.cells #[.int .u8 (t.lit.toNat : Int), .int .i64 t.len, .int .i64 t.dist] 134)).alloc (.cells #[.int .u8 (t.lit.toNat : Int), .int .i64 t.len, .int .i64 t.dist] 134)) V → Tb V w2.heap.size t) := Lib.hid fun V hV => by
    have h1 : Tb (w2.alloc (.cells #[.int .u8 (t.lit.toNat : Int), .int .i64 t.len, .int .i64 t.dist] 134)) w2.heap.size t := Array.getElem?_push_size
    have h2 : Tb ((w2.alloc (.cells #[.int .u8 (t.lit.toNat : Int), .int .i64 t.len, .int .i64 t.dist] 134)).alloc (.cells #[.int .u8 (t.lit.toNat : Int), .int .i64 t.len, .int .i64 t.dist] 134)) w2.heap.size t := h1.only (S := fun _ => False) (Only.of_below (Y0i _ _)) (fun e => e)
    exact h2.only hV fun e => by
     have := (HT.out.own.lt e).2
     omega
   have HCT := Lib.hid HT.out.count
   have HWB : Hid (w1.heap.size ≤ ((w2.alloc (.cells #[.int .u8 (t.lit.toNat : Int), .int .i64 t.len, .int .i64 t.dist] 134)).alloc (.cells #[.int .u8 (t.lit.toNat : Int), .int .i64 t.len, .int .i64 t.dist] 134)).heap.size) := Lib.hid (by have := HT.out.hB; have := hb5.size; omega)
   have HSZ := Lib.hid (fun W => Y42 t W)
   rw [hS] at HSZ
   have HF4 := Lib.hid (hf2.below hb4)
   have HEX := Lib.hid hex
   have HTOK := Lib.hid htok
   unfold Yus at HSZ ⊢
   have hS3 : k + S ≤ n := by rw [← HX.out]; exact hS2
   clear hgood hfin hf2 hb2 hex htok hb4 hb5 hz2 hS HLG hS2
   go_wp2_with (at_builtin; refine Y7w rfl _ _ rfl w1.heap.size s l rfl HO4.out (some ⟨w2.heap.size + 1, 0, none⟩) 1 1 [t] rfl HR4.out rfl (fun h => by cases h) (by have := HCT.out; omega) HWB.out ?_; intro v5 w5 ho5 hg5 hb5; have HO5 := Lib.hid ho5; have HB5 := Lib.hid hb5; have HON5 := Lib.hid (Y4j hg5); obtain ⟨t0, t1, t2⟩ := (HTB.out _ HON5.out).cells; clear ho5 hg5 hb5)
   refine (HSZ.out _).mono ?_
   rintro e w6 ⟨rfl, hb6⟩
   have HEN : Hid (Ent w K w1.heap.size k v5 (l ++ [t]) w6) := Lib.hid (by
    have h1 := HT.out
    have h2 := h1.bel.size
    have h3 := HWB.out
    have h4 := HB5.out.size
    have h5 := HB4.out.size
    have h6 := HB1.out
    have hC := HKC.out
    exact ⟨((HF4.out).only HON5.out (fun e => by have := (HO4.out.lt e).1; have := h1.hd; omega) (fun e => by have := (HO4.out.lt e).1; have := h1.hg; omega) (fun e => by have := (HO4.out.lt e).1; have := h1.hh; omega) (fun j hj e => by have := (HO4.out.lt e).1; omega)).below hb6,
     ((h1.bel.trans (HB4.out.mono h2)).trans (HB5.out.mono h6)).trans (hb6.mono (by omega)), HO5.out.below hb6, ((h1.lat.below HB4.out (by have := h1.hg; have := h1.hB; omega)).below HB5.out h1.hg).below hb6 (by have := h1.hg; omega), h1.hd, h1.hg, h1.hh, by have := hb6.size; omega⟩)
   have qs : (S : Int) = (S : Int) := rfl
   clear hb6 qs
   go_wp2_with fail
   go_loopw [5, 22] (fun v i wq => ∃ c : Nat, c ≤ S ∧ i = .int .i64 (c : Int) ∧ v = .int .i64 ((k + c : Nat) : Int) ∧ Hid (Ent w K w1.heap.size (k + c) v5 (l ++ [t]) wq)) (fun _ i _ => S - (intOf i).toNat)
   case atStart => exact ⟨0, by omega, rfl, rfl, HEN⟩
   case round =>
    obtain ⟨c, hcS, rfl, rfl, HEC⟩ := hrel
    clear HEN
    by_cases hlc : c < S
    ·have qc : decide ((c : Int) < (S : Int)) = true := by simpa using hlc
     have HENT := Lib.hid (Yo2 K (k + c) wr HEC.out.fi (by rw [HX.out]; omega))
     go_wp2_with fail
     refine HENT.out.mono ?_
     rintro e w7 ⟨rfl, hf7, ho7, hl7⟩
     have HE7 := Lib.hid (HEC.out.enter HKC.out hf7 ho7 hl7)
     clear hf7 ho7 hl7
     go_wp2_with fail
     go_roundw
     case rel => exact ⟨c + 1, by omega, by first | rfl | (push_cast; rfl), by first | rfl | (push_cast; rfl) | (congr 1; push_cast; omega), HE7⟩
     case measure => simp [intOf]; omega
    ·have hcS2 : c = S := by omega
     subst hcS2
     have qc : decide ((c : Int) < (c : Int)) = false := by simp
     have HT7 : Hid (Tel w K w1.heap.size (k + c) v5 (l ++ [t]) wr) := Lib.hid ⟨HEC.out.fi, HEC.out.bel, HEC.out.own, HEX.out, fun t' ht' => by
      rcases List.mem_append.1 ht' with h | h
      ·exact HT.out.ok t' h
      ·rw [List.mem_singleton.1 h]; exact HTOK.out, by rw [HX.out]; omega, HEC.out.lat, HEQ.out, HEC.out.hd, HEC.out.hg, HEC.out.hh, HEC.out.hB, HKC.out⟩
     go_wp2_with fail
     go_roundw
     case rel => exact ⟨k + c, v5, l ++ [t], hS3, by first | rfl | (push_cast; rfl), rfl, HT7⟩
     case measure => simp [intOf]; omega
  ·have hkn : k = n := by omega
   have ql : decide ((k : Int) < (n : Int)) = false := by simp; omega
   have HRES : Hid (TokP w K.xs (.returned s) wr) := Lib.hid (Tel.done (B := w1.heap.size) (by rw [HX.out, ← hkn]; exact HT.out) HB1.out)
   clear hkn
   go_wp2_with fail
   go_ret
   exact HRES.out
end Go.Proofs.YtkkfkmoikcmhoaaGreat.Lzt
