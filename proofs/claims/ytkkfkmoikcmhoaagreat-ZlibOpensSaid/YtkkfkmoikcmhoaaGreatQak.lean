/- IgH, IgI, IgJ, HfR: merged. -/
import Derived.Test.YtkkfkmoikcmhoaaGreatQad
import Derived.Test.YtkkfkmoikcmhoaaGreatQai
import Derived.Test.YtkkfkmoikcmhoaaGreatQaj
set_option linter.unusedVariables false
set_option linter.unusedSimpArgs false
namespace Go.Proofs.YtkkfkmoikcmhoaaGreat.Inf
open Go.RowKit Go.Shelf Oct Bit Hf
set_option maxRecDepth 100000
def renI : Ren := ⟨fun n => if n = 4 then 132 else n, fun n => if n = 22 then 74 else if n = 25 then 3 else if n = 3 then 3 else if n = 4 then 4 else if n = 9 then 9 else if n = 20 then 20 else n, fun n => n⟩
theorem Ym5 : Lays8.n4 Tryz.prog renI where
 mixed := by kernel_rfl
 f4 := ⟨ "slices.Grow[[]int,int]", by kernel_rfl, by kernel_rfl⟩
 t0 := by kernel_rfl
 a0 _ := by kernel_rfl
 z0 _ := by kernel_rfl
 v0 _ := by kernel_rfl
 t3 := by kernel_rfl
 a3 _ := by kernel_rfl
 z3 _ := by kernel_rfl
 v3 _ := by kernel_rfl
 t4 := by kernel_rfl
 a4 _ := by kernel_rfl
 z4 _ := by kernel_rfl
 v4 _ := by kernel_rfl
 t9 := by kernel_rfl
 a9 _ := by kernel_rfl
 z9 _ := by kernel_rfl
 v9 _ := by kernel_rfl
 t20 := by kernel_rfl
 a20 _ := by kernel_rfl
 z20 _ := by kernel_rfl
 v20 _ := by kernel_rfl
 t22 := by kernel_rfl
 a22 _ := by kernel_rfl
 z22 _ := by kernel_rfl
 v22 _ := by kernel_rfl
def IOwn (w : World) (base : Nat) (v : Value) (zs : List Int) : Prop := w.ownsRow base 3 1 v zs.length (ints zs)
def Ylu (w : World) (e : Ending) (w' : World) : Prop := ∃ v, e = .returned v ∧ IOwn w' w.heap.size v [] ∧ Below w.heap.size w w'
theorem Yfi (n : Nat) (w : World) (hn : n ≤ 1000000) : Calls Tryz.prog 132 #[.slice none 0 0, .int .i64 (n : Int)] w (Ylu w) := by
 obtain ⟨i0, hi, hz0, hz1, hz2⟩ := info_parts Tryz.infoInt
 have e : renI.f 4 = 132 := rfl
 rcases Nat.eq_zero_or_pos n with h0 | h0
 ·have h := Any8.slices_Grow_room Ym5 none 0 0 n w (by omega) (by omega) (by omega) (by omega)
  rw [e] at h
  refine h.mono ?_
  rintro e w' ⟨rfl, rfl⟩
  exact ⟨_, rfl, ⟨rfl, .inl ⟨rfl, rfl⟩⟩, Below.refl _ _⟩
 ·have h := Any8.slices_Grow_grow Ym5 i0 _ hi hz0 (by omega) none 0 0 n [] w (by omega) (by omega) (by rw [hz2]; omega) (by omega) (by simp) (fun _ => rfl) (fun a h => by cases h)
  rw [e] at h
  refine h.mono ?_
  rintro e w' ⟨rfl, rfl⟩
  refine ⟨_, rfl, ?_, ((Below.refl _ w).drew).alloc (Nat.le_refl _) _⟩
  have hm := World.ownsRow_made (size := 1) (w := w.drew) (base := w.heap.size) (e := 3) (([] : List Value).toArray ++ Builtin.zeroCells (Value.int .i64 0).cells (0 + n - 0) ++ Builtin.zeroCells (Value.int .i64 0).cells (grownCap w (0 + n) 0 3 - (0 + n))) (grownCap w (0 + n) 0 3) (Nat.le_refl _) (grownCap_le_maxLen _ _ _ _ (by unfold maxLen; omega)) ?_
  ·exact hm
  ·have hge := grownCap_ge w (0 + n) 0 3
   rw [Nat.zero_add] at hge
   simp [Builtin.zeroCells, Value.cells]
   omega
def CatP8 (w : World) (zs : List Int) (e : Ending) (w' : World) : Prop := ∃ v, e = .returned v ∧ IOwn w' w.heap.size v zs ∧ Below w.heap.size w w'
def Yk2 (w : World) (sb : Nat) (R : List (List Int)) : Prop := ∀ k (h : k < R.length), ∃ p cc, w.cell? ⟨sb, k, none⟩ = some (.slice p R[k].length cc) ∧ VRow w w.heap.size p (ints R[k]) ∧ (p = none → cc = 0) ∧ R[k].length ≤ 1000
theorem Y6s (R : List (List Int)) (k : Nat) (h : k < R.length) : (R.take (k + 1)).flatten = (R.take k).flatten ++ R[k] := by
 rw [List.take_succ_eq_append_getElem h, List.flatten_append]
 simp
theorem Yi6 (R : List (List Int)) (hl : R.length ≤ 10) (h : ∀ k (h : k < R.length), R[k].length ≤ 1000) (k : Nat) (hk : k ≤ R.length) : (R.take k).flatten.length ≤ 1000 * k := by
 induction k with
 | zero => simp
 | succ k ih =>
  rw [Y6s R k (by omega), List.length_append]
  have := ih (by omega)
  have := h k (by omega)
  omega
set_option maxHeartbeats 4000000 in
theorem Yar (sb c : Nat) (R : List (List Int)) (w : World) (hsb : sb < w.heap.size) (hR : Yk2 w sb R) (hl : R.length ≤ 10) (h1 : 1 ≤ R.length) :
  Calls Tryz.prog 102 #[.slice (some ⟨sb, 0, none⟩) R.length c] w (CatP8 w R.flatten) := by
 obtain ⟨i0, hi, hz0, hz1, hz2⟩ := info_parts Tryz.infoInt
 have HR := Lib.hid hR
 have HFL := Lib.hid (Yi6 R hl (fun k h => by obtain ⟨_, _, _, _, _, h5⟩ := hR k h; exact h5))
 obtain ⟨N, hN⟩ : ∃ N, N = R.length := ⟨_, rfl⟩
 rw [← hN]
 have hN10 : N ≤ 10 := by omega
 have HN := Lib.hid hN
 clear hR hl hN h1
 go_enter Tryz.func102, Tryz.ntmps102
 go_wp2
 go_loopg [3, 11] N (fun kx s3 s11 wr => ∃ (k s : Nat), s11 = .int .i64 (k : Int) ∧ s3 = .int .i64 (s : Int) ∧ k ≤ N ∧ N - k ≤ kx ∧ Hid (s = (R.take k).flatten.length) ∧ s ≤ 10000 ∧ w = wr)
 case atStart => exact ⟨0, 0, rfl, rfl, by omega, by omega, Lib.hid (by simp), by omega, rfl⟩
 case round =>
  obtain ⟨k, s, rfl, rfl, hk, hkx, HS, hs, rfl⟩ := hrel
  by_cases hlt : k < N
  ·have hkz : (k : Int) < (N : Int) := by omega
   have hk0 : (0 : Int) ≤ (k : Int) := by omega
   have hkR : k < R.length := by rw [← HN.out]; exact hlt
   obtain ⟨p, cc, hc, hv0, hp0, hn⟩ := HR.out k hkR
   clear hv0 hp0
   have hss : s + R[k].length = (R.take (k + 1)).flatten.length := by rw [Y6s R k hkR, List.length_append, ← HS.out]
   have HSS := Lib.hid hss
   have hs2 : s + R[k].length ≤ 10000 := by
    rw [hss]
    have := HFL.out (k + 1) (by omega)
    omega
   generalize R[k].length = n at hc hn HSS hs2
   have ws : IntKind.i64.wrap ((s : Int) + (n : Int)) = ((s + n : Nat) : Int) := by rw [IntKind.wrap_i64]; omega
   obtain ⟨sn, hsn⟩ : ∃ sn, sn = s + n := ⟨_, rfl⟩
   rw [← hsn] at ws HSS hs2
   have hneg : ¬ (sn : Int) < 0 := by omega
   clear hss hsn hkR
   go_wp2
   go_roundg (N - (k + 1))
   case measure => omega
   case rel => exact ⟨k + 1, sn, by go_num, rfl, by omega, Nat.le_refl _, HSS, hs2, rfl⟩
  ·have hkz : ¬ (k : Int) < (N : Int) := by omega
   have hk2 : k = N := by omega
   have hg := Yfi s w (by omega)
   go_wp2_with (go_at_call 132; refine hg.mono ?_; rintro e w' ⟨v, rfl, ho, hb⟩)
   go_loopg [6, 27] N (fun kx s6 s27 wr => ∃ (k : Nat), s27 = .int .i64 (k : Int) ∧ k ≤ N ∧ N - k ≤ kx ∧ Hid (IOwn wr w.heap.size s6 (R.take k).flatten ∧ Below w.heap.size w wr))
   case atStart => exact ⟨0, rfl, by omega, by omega, Lib.hid ⟨by simpa using ho, hb⟩⟩
   case round =>
    clear ho hb
    obtain ⟨k', rfl, hk', hkx', HT⟩ := hrel
    by_cases hlt' : k' < N
    ·have hkz' : (k' : Int) < (N : Int) := by omega
     have hk0' : (0 : Int) ≤ (k' : Int) := by omega
     have hkR : k' < R.length := by rw [← HN.out]; exact hlt'
     obtain ⟨p, cc, hc, hv, hp0, hn⟩ := HR.out k' hkR
     have hcw : wr.cell? ⟨sb, k', none⟩ = some (Value.slice p R[k'].length cc) := (HT.out.2.cell (p := ⟨sb, k', none⟩) hsb).trans hc
     have HV := Lib.hid ((hv.below HT.out.2 (Nat.le_refl _)).mono HT.out.2.size)
     have HP0 := Lib.hid hp0
     have hfl := HFL.out k' (by omega)
     have HTF := Lib.hid (Y6s R k' hkR)
     obtain ⟨z, hz⟩ : ∃ z, z = R[k'] := ⟨_, rfl⟩
     rw [← hz] at hcw HV hn HTF
     clear hc hv hp0 hz
     go_wp2_with (at_builtin; refine Y0b Tryz.underlying74 hi hz0 hz1 hz2 rfl (by decide) rfl _ _ rfl w.heap.size _ (R.take k').flatten.length (ints (R.take k').flatten) rfl HT.out.1 p z.length cc (ints z) rfl HV.out (Y04 _) HP0.out Y2d (by omega) HT.out.2.size ?_; intro v2 w2 ho2 hg2 hb2)
     have HX : Hid (IOwn w2 w.heap.size v2 (R.take (k' + 1)).flatten ∧ Below w.heap.size w w2) := Lib.hid ⟨by
      unfold IOwn
      rw [HTF.out, List.length_append, Y1g]
      exact ho2, HT.out.2.trans hb2⟩
     clear ho2 hg2 hb2
     go_roundg (N - (k' + 1))
     case measure => omega
     case rel => exact ⟨k' + 1, by go_num, by omega, Nat.le_refl _, HX⟩
    ·have hkz' : ¬ (k' : Int) < (N : Int) := by omega
     have hk2' : k' = N := by omega
     go_wp2
     go_ret
     refine ⟨_, rfl, ?_⟩
     have := HT.out
     rwa [hk2', HN.out, List.take_length] at this
end Go.Proofs.YtkkfkmoikcmhoaaGreat.Inf
namespace Go.Proofs.YtkkfkmoikcmhoaaGreat.Inf
open Go.RowKit Go.Shelf Oct Bit Hf
set_option maxRecDepth 100000
def Y03 (L : List Nat) : List Int := L.map fun n : Nat => (n : Int)
theorem Y01 (L : List Nat) : (Y03 L).length = L.length := by simp [Y03]
theorem Y4r (w0 w : World) (hb : Below w0.heap.size w0 w) (z N : Int) (n : Nat) (hN : N = (n : Int)) (h1 : 1 ≤ n) (hn : n ≤ 1000) :
  Calls Tryz.prog 103 #[.slice (some ⟨w.heap.size, 0, none⟩) 1 1, .int .i64 N] (w.alloc (.cells #[.int .i64 z] 3)) fun e w' => ∃ b, e = .returned (.slice (some ⟨b, 0, none⟩) n n) ∧ Below w0.heap.size w0 w' ∧ Below w.heap.size w w' ∧ VRow w' w'.heap.size (some ⟨b, 0, none⟩) (ints (List.replicate n z)) := by
 subst hN
 have hba : Below w.heap.size w (w.alloc (.cells #[.int .i64 z] 3)) := (Below.refl _ w).alloc (Nat.le_refl _) _
 have hv : VRow (w.alloc (.cells #[.int .i64 z] 3)) (w.alloc (.cells #[.int .i64 z] 3)).heap.size (some ⟨w.heap.size, 0, none⟩) (ints [z]) := Y0y (vs := ints [z]) (T := 3) (fr := (0, 0)) (Array.getElem?_push_size) (by simp)
 refine (Yj6 _ 1 z n _ hv h1 hn).mono ?_
 rintro e w' ⟨rfl, hb2, hv2⟩
 have h3 : Below w.heap.size w w' := hba.trans (hb2.mono (by simp))
 exact ⟨_, rfl, hb.trans (h3.mono hb.size), h3, hv2⟩
def Ykb (w : World) (e : Ending) (w' : World) : Prop :=
 Below w.heap.size w w' ∧ ∃ q c r d, e = .returned (.tuple #[.slice q 288 c, .slice r 30 d]) ∧ VRow w' w'.heap.size q (ints (Y03 Y0r)) ∧ (q = none → c = 0) ∧ VRow w' w'.heap.size r (ints (Y03 Y0n)) ∧ (r = none → d = 0)
theorem Yax : ([List.replicate 144 8, List.replicate 112 9, List.replicate 24 7, List.replicate 8 8] : List (List Int)).flatten = Y03 Y0r := by decide +kernel
theorem Yaz : (List.replicate 30 5 : List Int) = Y03 Y0n := by decide +kernel
set_option maxHeartbeats 1000000 in
theorem Yfa (w : World) : Calls Tryz.prog 73 #[] w (Ykb w) := by
 go_enter Tryz.func73, Tryz.ntmps73
 go_wp2_with fail
 refine (Y4r w w (Below.refl _ _) 8 144 144 rfl (by omega) (by omega)).mono ?_
 rintro e w1 ⟨b1, rfl, hB1, _, hv1⟩
 have HB1 := Lib.hid hB1
 have HV1 := Lib.hid hv1
 clear hB1 hv1
 go_wp2_with fail
 refine (Y4r w w1 HB1.out 9 112 112 rfl (by omega) (by omega)).mono ?_
 rintro e w2 ⟨b2, rfl, hB2, hb2, hv2⟩
 have HB2 := Lib.hid hB2
 have HV2 := Lib.hid hv2
 have HV12 := Lib.hid ((HV1.out.below hb2 (Nat.le_refl _)).mono hb2.size)
 clear hB2 hv2 hb2
 go_wp2_with fail
 refine (Y4r w w2 HB2.out 7 24 24 rfl (by omega) (by omega)).mono ?_
 rintro e w3 ⟨b3, rfl, hB3, hb3, hv3⟩
 have HB3 := Lib.hid hB3
 have HV3 := Lib.hid hv3
 have HV13 := Lib.hid ((HV12.out.below hb3 (Nat.le_refl _)).mono hb3.size)
 have HV23 := Lib.hid ((HV2.out.below hb3 (Nat.le_refl _)).mono hb3.size)
 clear hB3 hv3 hb3
 go_wp2_with fail
 refine (Y4r w w3 HB3.out 8 8 8 rfl (by omega) (by omega)).mono ?_
 rintro e w4 ⟨b4, rfl, hB4, hb4, hv4⟩
 have HB4 := Lib.hid hB4
 obtain ⟨w5, hw5⟩ : ∃ w5, w5 = w4.alloc (.cells #[.slice (some ⟨b1, 0, none⟩) 144 144, .slice (some ⟨b2, 0, none⟩) 112 112, .slice (some ⟨b3, 0, none⟩) 24 24, .slice (some ⟨b4, 0, none⟩) 8 8] 74) := ⟨_, rfl⟩
 have hb5 : Below w4.heap.size w4 w5 := by rw [hw5]; exact (Below.refl _ w4).alloc (Nat.le_refl _) _
 have hblk : w5.heap[w4.heap.size]? = some (.cells #[.slice (some ⟨b1, 0, none⟩) 144 144, .slice (some ⟨b2, 0, none⟩) 112 112, .slice (some ⟨b3, 0, none⟩) 24 24, .slice (some ⟨b4, 0, none⟩) 8 8] 74 (0, 0)) := by rw [hw5]; exact Array.getElem?_push_size
 have hrows : Yk2 w5 w4.heap.size [List.replicate 144 8, List.replicate 112 9, List.replicate 24 7, List.replicate 8 8] := by
  have lift : ∀ {p : Option Addr} {vs : List Value}, VRow w4 w4.heap.size p vs → VRow w5 w5.heap.size p vs := fun h => (h.below hb5 (Nat.le_refl _)).mono hb5.size
  intro k hk
  match k, hk with
  | 0, _ => exact ⟨some ⟨b1, 0, none⟩, 144, by simp [World.cell?, hblk], lift ((HV13.out.below hb4 (Nat.le_refl _)).mono hb4.size), (fun h => by cases h), by simp⟩
  | 1, _ => exact ⟨some ⟨b2, 0, none⟩, 112, by simp [World.cell?, hblk], lift ((HV23.out.below hb4 (Nat.le_refl _)).mono hb4.size), (fun h => by cases h), by simp⟩
  | 2, _ => exact ⟨some ⟨b3, 0, none⟩, 24, by simp [World.cell?, hblk], lift ((HV3.out.below hb4 (Nat.le_refl _)).mono hb4.size), (fun h => by cases h), by simp⟩
  | 3, _ => exact ⟨some ⟨b4, 0, none⟩, 8, by simp [World.cell?, hblk], lift hv4, (fun h => by cases h), by simp⟩
 have HCAT := Lib.hid (Yar w4.heap.size 4 _ w5 (by rw [hw5]; simp) hrows (by simp) (by simp))
 have HB5 := Lib.hid (HB4.out.trans (hb5.mono HB4.out.size))
 have HW5 := Lib.hid hw5
 clear hB4 hv4 hb4 hb5 hblk hrows hw5
 go_wp2_with fail
 rw [← HW5.out]
 refine HCAT.out.mono ?_
 rintro e w6 ⟨v, rfl, ho, hb6⟩
 rw [Yax] at ho
 obtain ⟨q, c, rfl, hq0, hqc, hqm, hqr, _⟩ := Y0z ho (Y04 _)
 have HB6 := Lib.hid (HB5.out.trans (hb6.mono HB5.out.size))
 have HQ := Lib.hid hqr
 have HQ0 := Lib.hid hq0
 clear ho hb6 hqr hq0 hqc hqm
 go_wp2_with fail
 refine (Y4r w w6 HB6.out 5 30 30 rfl (by omega) (by omega)).mono ?_
 rintro e w7 ⟨b7, rfl, hB7, hb7, hv7⟩
 have HB7 := Lib.hid hB7
 have HV7 := Lib.hid hv7
 have HQ7 := Lib.hid ((HQ.out.below hb7 (Nat.le_refl _)).mono hb7.size)
 clear hB7 hv7 hb7
 go_wp2_with fail
 go_ret2
 exact ⟨HB7.out, q, c, _, _, rfl, HQ7.out, HQ0.out, by rw [← Yaz]; exact HV7.out, fun h => by cases h⟩
def OrdP (w : World) (e : Ending) (w' : World) : Prop := e = .returned (.slice (some ⟨w.heap.size, 0, none⟩) 19 19) ∧ Below w.heap.size w w' ∧ VRow w' w'.heap.size (some ⟨w.heap.size, 0, none⟩) (ints (Y03 order))
theorem Yg3 (w : World) : Calls Tryz.prog 124 #[] w (OrdP w) := by
 go_enter Tryz.func124, Tryz.ntmps124
 go_wp2_with fail
 go_ret
 exact ⟨rfl, (Below.refl _ w).alloc (Nat.le_refl _) _, Y0y (vs := ints (Y03 order)) (T := 3) (fr := (0, 0)) (Array.getElem?_push_size) (by simp)⟩
theorem Ye1 (w : World) : Calls Tryz.prog 67 #[] w (OrdP w) := by
 go_enter Tryz.func67, Tryz.ntmps67
 go_wp2_with fail
 go_ret
 exact ⟨rfl, (Below.refl _ w).alloc (Nat.le_refl _) _, Y0y (vs := ints (Y03 order)) (T := 3) (fr := (0, 0)) (Array.getElem?_push_size) (by simp)⟩
end Go.Proofs.YtkkfkmoikcmhoaaGreat.Inf
namespace Go.Proofs.YtkkfkmoikcmhoaaGreat.Inf
open Go.RowKit Go.Shelf Oct Bit Hf
set_option maxRecDepth 100000
def exN (g i : Nat) : Nat := i / g - 1
def frN (f g : Nat) : Nat → Nat
 | 0 => f
 | k + 1 => frN f g k + 2 ^ exN g k
def Ycn (f g n : Nat) : List (Nat × Nat) := (List.range n).map fun i => (frN f g i, exN g i)
def bcells : List (Nat × Nat) → List Value
 | [] => []
 | x :: r => .int .i64 (x.1 : Int) :: .int .i64 (x.2 : Int) :: bcells r
theorem Y4j : ∀ a b : List (Nat × Nat), bcells (a ++ b) = bcells a ++ bcells b
 | [], b => rfl
 | x :: r, b => by simp [bcells, Y4j r b]
theorem Y0o : ∀ a : List (Nat × Nat), (bcells a).length = a.length * 2
 | [] => rfl
 | x :: r => by simp [bcells, Y0o r]; omega
theorem Y4w : ∀ (a : List (Nat × Nat)) (i : Nat) (x : Nat × Nat), a[i]? = some x → (bcells a)[i * 2]? = some (.int .i64 (x.1 : Int)) ∧ (bcells a)[i * 2 + 1]? = some (.int .i64 (x.2 : Int))
 | [], i, x, h => by cases h
 | y :: r, 0, x, h => by
  injection h with h
  subst h
  exact ⟨rfl, rfl⟩
 | y :: r, i + 1, x, h => by
  have := Y4w r i x h
  rw [show (i + 1) * 2 = i * 2 + 1 + 1 from by omega]
  exact this
theorem Y4x : ∀ (a : List (Nat × Nat)) (i : Nat) (x : Nat × Nat), ((bcells a).set (i * 2) (.int .i64 (x.1 : Int))).set (i * 2 + 1) (.int .i64 (x.2 : Int)) = bcells (a.set i x)
 | [], i, x => by simp [bcells]
 | y :: r, 0, x => rfl
 | y :: r, i + 1, x => by
  have := Y4x r i x
  rw [show (i + 1) * 2 = i * 2 + 1 + 1 from by omega]
  simp only [bcells, List.set_cons_succ]
  rw [this]
def Y1x (ps : List (Nat × Nat)) (k : Nat) : List (Nat × Nat) := ps.take k ++ List.replicate (ps.length - k) (0, 0)
theorem Y58 (ps : List (Nat × Nat)) (k : Nat) (h : k ≤ ps.length) : (Y1x ps k).length = ps.length := by simp [Y1x]; omega
theorem Y7a (ps : List (Nat × Nat)) (k : Nat) (h : k < ps.length) : (Y1x ps k).set k ps[k] = Y1x ps (k + 1) := by
 unfold Y1x
 rw [List.set_append, if_neg (by simp; omega)]
 rw [List.take_succ_eq_append_getElem h, List.append_assoc]
 congr 1
 rw [List.length_take, Nat.min_eq_left (Nat.le_of_lt h), Nat.sub_self, show ps.length - k = (ps.length - (k + 1)) + 1 from by omega, List.replicate_succ]
 rfl
theorem Y5f {w : World} {g : Nat} {vs : List Value} {T : TypeId} {fr : Nat × Nat} (h : w.heap[g]? = some (.cells vs.toArray T fr)) (i : Nat) (u : Value) : (w.setCell ⟨g, i, none⟩ u).heap[g]? = some (.cells (vs.set i u).toArray T fr) := by
 simp [World.setCell, Array.getElem?_modify, h]
theorem Tryz.infoBase : (Tryz.prog.info? 102).map (fun i => (i.zero, i.size, i.bytes)) = some (some (.agg #[.int .i64 0, .int .i64 0]), 2, 16) := by kernel_rfl
theorem Y9g (n : Nat) : (madeCells #[Value.int .i64 0, .int .i64 0] (n * 2)).toList = bcells (List.replicate n (0, 0)) := by
 have h1 : ∀ (m : Nat) (j : Nat), (bcells (List.replicate m (0, 0)))[j]? = if j < m * 2 then some (.int .i64 0) else none := by
  intro m
  induction m with
  | zero => intro j; simp [bcells]
  | succ m ih =>
   intro j
   rw [List.replicate_succ, bcells]
   match j with
   | 0 => simp
   | 1 => rw [List.getElem?_cons_succ, List.getElem?_cons_zero, if_pos (by omega)]; rfl
   | j + 2 =>
    rw [List.getElem?_cons_succ, List.getElem?_cons_succ, ih j]
    by_cases h : j < m * 2
    ·rw [if_pos h, if_pos (by omega)]
    ·rw [if_neg h, if_neg (by omega)]
 apply List.ext_getElem?
 intro j
 rw [h1]
 by_cases h : j < n * 2
 ·rw [if_pos h]
  have h2 : j % 2 = 0 ∨ j % 2 = 1 := by omega
  rcases h2 with h2 | h2 <;> simp [madeCells, h2, h]
 ·rw [if_neg h]
  simp [madeCells, h]
theorem Yet {w : World} {B T n g : Nat} {xs : List Value} (h : w.ownsRow B T 2 (.slice (some ⟨g, 0, none⟩) n n) n xs) : w.heap[g]? = some (.cells xs.toArray T (0, 0)) := by
 rcases h.2 with ⟨hv, _⟩ | ⟨g', cap, cur, hv, _, hh, _, _, hs, ht⟩
 ·cases hv
 ·injection hv with e1 _ e3
  injection e1 with e1
  injection e1 with e1
  subst e1
  subst e3
  have e : cur = xs.toArray := by
   rw [← ht, List.take_of_length_le (by simp [hs])]
  rw [hh, e]
def BasP (w : World) (L : List (Nat × Nat)) (e : Ending) (w' : World) : Prop :=
 ∃ v, e = .returned v ∧ Below w.heap.size w w' ∧ w'.ownsRow w.heap.size 102 2 v L.length (bcells L)
def Ycv (w : World) (H : Nat) (L : List (Nat × Nat)) (k : Nat) (wr : World) : Prop := Below w.heap.size w wr ∧ wr.heap[H]? = some (.cells (bcells (Y1x L k)).toArray 102 (0, 0))
theorem Yad (z : Int) (h0 : 0 ≤ z) (h1 : z ≤ 1000000) : wrap64 z = z := by
 unfold wrap64
 omega
theorem Yg8 (x : Nat) (hx : x ≤ 13) : ∃ y : Nat, (2 : Int) ^ x = (y : Int) ∧ 2 ^ x = y ∧ y ≤ 8192 := by
 refine ⟨2 ^ x, by simp, rfl, ?_⟩
 have hb : (2 : Nat) ^ x ≤ 2 ^ 13 := Nat.pow_le_pow_right (by omega) hx
 exact Nat.le_trans hb (by decide)
theorem Yej (fr x n : Nat) (hf : fr ≤ 100000) (hx : x ≤ 13) (hn : n = fr + 2 ^ x) : wrap64 ((fr : Int) + wrap64 ((2 : Int) ^ x)) = (n : Int) := by
 obtain ⟨y, h1, h2, h3⟩ := Yg8 x hx
 rw [h2] at hn
 rw [h1, Yad (y : Int) (by omega) (by omega), Yad _ (by omega) (by omega)]
 omega
theorem Yb1 : ∀ k, k ≤ 28 → frN 3 4 k ≤ 100000 := by decide +kernel
theorem Ydg : ∀ k, k ≤ 30 → frN 1 2 k ≤ 100000 := by decide +kernel
set_option maxHeartbeats 1000000 in
theorem Ycy (w : World) : Calls Tryz.prog 54 #[.int .i64 3, .int .i64 4, .int .i64 28] w (BasP w (Ycn 3 4 28)) := by
 obtain ⟨i0, hi, hz0, hz1, hz2⟩ := info_parts Tryz.infoBase
 go_enter Tryz.func54, Tryz.ntmps54
 go_wp2_with (at_make; refine wpList_make_full _ rfl _ _ 53 rfl w.heap.size 102 i0 (.agg #[.int .i64 0, .int .i64 0]) 2 Tryz.underlying53 hi hz0 hz1 .i64 .i64 28 28 28 rfl rfl rfl rfl ?c2 ?c3 ?c4 ?_)
 case c2 => rw [hz2]; omega
 case c3 => unfold maxLen; omega
 case c4 => omega
 intro w1 hown hgrow
 have hb1 : Below w.heap.size w w1 := (Below.refl _ _).grown hgrow (Nat.le_refl _) (fun k hk => by cases hk)
 obtain ⟨L, hL⟩ : ∃ L, L = Ycn 3 4 28 := ⟨_, rfl⟩
 have hLl : L.length = 28 := by rw [hL]; simp [Ycn]
 have hrow : w1.heap[w.heap.size]? = some (.cells (bcells (Y1x L 0)).toArray 102 (0, 0)) := by
  have h0 : Y1x L 0 = List.replicate 28 (0, 0) := by unfold Y1x; rw [hLl]; rfl
  rw [h0, ← Y9g 28]
  exact Yet hown
 have HST := Lib.hid (show Ycv w w.heap.size L 0 w1 from ⟨hb1, hrow⟩)
 have HL := Lib.hid hL
 have HLL := Lib.hid hLl
 have hwl : w.heap.size ≤ w.heap.size := Nat.le_refl _
 generalize hH : w.heap.size = H at hown HST ⊢
 have hwl : w.heap.size ≤ H := by omega
 clear hown hgrow hb1 hrow hL hLl hH
 go_wp2_with fail
 go_loopw [0, 8, 9, 14] (fun f u x i wr => ∃ k : Nat, k ≤ 28 ∧ f = .int .i64 ((frN 3 4 k : Nat) : Int) ∧ i = .int .i64 (k : Int) ∧ Hid (Ycv w H L k wr)) (fun f u x i wr => 28 - (intOf i).toNat)
 case atStart => exact ⟨0, by omega, rfl, rfl, HST⟩
 case round =>
  obtain ⟨k, hk, rfl, rfl, HB⟩ := hrel
  by_cases hlt : k < 28
  ·have hkL : k < L.length := by rw [HLL.out]; exact hlt
   have hblk := HB.out.2
   have hl1 : (bcells (Y1x L k)).length = 28 * 2 := by rw [Y0o, Y58 L k (by omega), HLL.out]
   have u0 : wr.cell? ⟨H, k * 2, none⟩ = some ((bcells (Y1x L k))[k * 2]'(by omega)) := by simp [World.cell?, hblk, hl1, show k * 2 < 28 * 2 from by omega]
   have u1 : wr.cell? ⟨H, k * 2 + 1, none⟩ = some ((bcells (Y1x L k))[k * 2 + 1]'(by omega)) := by simp [World.cell?, hblk, hl1, show k * 2 + 1 < 28 * 2 from by omega]
   have f0 : ∀ i, wr.frozen? ⟨H, i, none⟩ = false := by intro i; simp [World.frozen?, hblk]
   have f00 := f0 (k * 2)
   have f01 := f0 (k * 2 + 1)
   obtain ⟨x, hx⟩ : ∃ x, x = exN 4 k := ⟨_, rfl⟩
   have hx2 : x = k / 4 - 1 := hx
   have hmx : max 0 ((k : Int) / 4 - 1) = (x : Int) := by omega
   have hx13 : x ≤ 13 := by omega
   generalize (bcells (Y1x L k))[k * 2]'(by omega) = v0 at u0
   generalize (bcells (Y1x L k))[k * 2 + 1]'(by omega) = v1 at u1
   obtain ⟨fr, hfr⟩ : ∃ fr, frN 3 4 k = fr := ⟨_, rfl⟩
   have hnext : frN 3 4 (k + 1) = fr + 2 ^ x := by rw [← hfr, hx]; rfl
   have hgetL : L[k] = (fr, x) := by simp [HL.out, Ycn, hfr, hx]
   have hfb : fr ≤ 100000 := by rw [← hfr]; exact Yb1 k hk
   have hadd : wrap64 ((fr : Int) + wrap64 ((2 : Int) ^ x)) = ((frN 3 4 (k + 1) : Nat) : Int) := Yej fr x _ hfb hx13 hnext
   have HNX : Hid (Ycv w H L (k + 1) ((wr.setCell ⟨H, k * 2, none⟩ (.int .i64 (fr : Int))).setCell ⟨H, k * 2 + 1, none⟩ (.int .i64 (x : Int)))) := Lib.hid ⟨(HB.out.1.setCell (p := ⟨H, k * 2, none⟩) hwl _).setCell (p := ⟨H, k * 2 + 1, none⟩) hwl _, by
    have h2 := Y5f (Y5f hblk (k * 2) (.int .i64 (fr : Int))) (k * 2 + 1) (.int .i64 (x : Int))
    have h3 := Y4x (Y1x L k) k (fr, x)
    simp only at h3
    rw [h3, ← hgetL, Y7a L k hkL] at h2
    exact h2⟩
   have HADD := Lib.hid hadd
   rw [hfr]
   clear hblk f0 hx2 hx hadd hnext hfr hgetL HB HST hl1
   go_wp2_with fail
   go_roundw
   case rel => exact ⟨k + 1, by omega, by rw [HADD.out], by first | rfl | (push_cast; rfl), HNX⟩
   case measure => simp [intOf]; omega
  ·have hkn : k = 28 := by omega
   subst hkn
   have HB2 := HB.out.2
   have hfin : Y1x L 28 = L := by
    unfold Y1x
    rw [List.take_of_length_le (by rw [HLL.out]; omega), HLL.out]
    simp
   rw [hfin] at HB2
   clear hlt hk
   go_wp2_with fail
   go_ret
   refine ⟨_, rfl, HB.out.1, ?_⟩
   rw [← HL.out, HLL.out]
   exact ⟨by rw [Y0o, HLL.out], .inr ⟨H, 28, _, rfl, hwl, HB2, Nat.le_refl _, by unfold maxLen; omega, by simp [Y0o, HLL.out], by rw [List.take_of_length_le (by simp [Y0o, HLL.out])]⟩⟩
set_option maxHeartbeats 1000000 in
theorem Yeo (w : World) : Calls Tryz.prog 54 #[.int .i64 1, .int .i64 2, .int .i64 30] w (BasP w (Ycn 1 2 30)) := by
 obtain ⟨i0, hi, hz0, hz1, hz2⟩ := info_parts Tryz.infoBase
 go_enter Tryz.func54, Tryz.ntmps54
 go_wp2_with (at_make; refine wpList_make_full _ rfl _ _ 53 rfl w.heap.size 102 i0 (.agg #[.int .i64 0, .int .i64 0]) 2 Tryz.underlying53 hi hz0 hz1 .i64 .i64 30 30 30 rfl rfl rfl rfl ?c2 ?c3 ?c4 ?_)
 case c2 => rw [hz2]; omega
 case c3 => unfold maxLen; omega
 case c4 => omega
 intro w1 hown hgrow
 have hb1 : Below w.heap.size w w1 := (Below.refl _ _).grown hgrow (Nat.le_refl _) (fun k hk => by cases hk)
 obtain ⟨L, hL⟩ : ∃ L, L = Ycn 1 2 30 := ⟨_, rfl⟩
 have hLl : L.length = 30 := by rw [hL]; simp [Ycn]
 have hrow : w1.heap[w.heap.size]? = some (.cells (bcells (Y1x L 0)).toArray 102 (0, 0)) := by
  have h0 : Y1x L 0 = List.replicate 30 (0, 0) := by unfold Y1x; rw [hLl]; rfl
  rw [h0, ← Y9g 30]
  exact Yet hown
 have HST := Lib.hid (show Ycv w w.heap.size L 0 w1 from ⟨hb1, hrow⟩)
 have HL := Lib.hid hL
 have HLL := Lib.hid hLl
 have hwl : w.heap.size ≤ w.heap.size := Nat.le_refl _
 generalize hH : w.heap.size = H at hown HST ⊢
 have hwl : w.heap.size ≤ H := by omega
 clear hown hgrow hb1 hrow hL hLl hH
 go_wp2_with fail
 go_loopw [0, 8, 9, 14] (fun f u x i wr => ∃ k : Nat, k ≤ 30 ∧ f = .int .i64 ((frN 1 2 k : Nat) : Int) ∧ i = .int .i64 (k : Int) ∧ Hid (Ycv w H L k wr)) (fun f u x i wr => 30 - (intOf i).toNat)
 case atStart => exact ⟨0, by omega, rfl, rfl, HST⟩
 case round =>
  obtain ⟨k, hk, rfl, rfl, HB⟩ := hrel
  by_cases hlt : k < 30
  ·have hkL : k < L.length := by rw [HLL.out]; exact hlt
   have hblk := HB.out.2
   have hl1 : (bcells (Y1x L k)).length = 30 * 2 := by rw [Y0o, Y58 L k (by omega), HLL.out]
   have u0 : wr.cell? ⟨H, k * 2, none⟩ = some ((bcells (Y1x L k))[k * 2]'(by omega)) := by simp [World.cell?, hblk, hl1, show k * 2 < 30 * 2 from by omega]
   have u1 : wr.cell? ⟨H, k * 2 + 1, none⟩ = some ((bcells (Y1x L k))[k * 2 + 1]'(by omega)) := by simp [World.cell?, hblk, hl1, show k * 2 + 1 < 30 * 2 from by omega]
   have f0 : ∀ i, wr.frozen? ⟨H, i, none⟩ = false := by intro i; simp [World.frozen?, hblk]
   have f00 := f0 (k * 2)
   have f01 := f0 (k * 2 + 1)
   obtain ⟨x, hx⟩ : ∃ x, x = exN 2 k := ⟨_, rfl⟩
   have hx2 : x = k / 2 - 1 := hx
   have hmx : max 0 ((k : Int) / 2 - 1) = (x : Int) := by omega
   have hx13 : x ≤ 13 := by omega
   generalize (bcells (Y1x L k))[k * 2]'(by omega) = v0 at u0
   generalize (bcells (Y1x L k))[k * 2 + 1]'(by omega) = v1 at u1
   obtain ⟨fr, hfr⟩ : ∃ fr, frN 1 2 k = fr := ⟨_, rfl⟩
   have hnext : frN 1 2 (k + 1) = fr + 2 ^ x := by rw [← hfr, hx]; rfl
   have hgetL : L[k] = (fr, x) := by simp [HL.out, Ycn, hfr, hx]
   have hfb : fr ≤ 100000 := by rw [← hfr]; exact Ydg k hk
   have hadd : wrap64 ((fr : Int) + wrap64 ((2 : Int) ^ x)) = ((frN 1 2 (k + 1) : Nat) : Int) := Yej fr x _ hfb hx13 hnext
   have HNX : Hid (Ycv w H L (k + 1) ((wr.setCell ⟨H, k * 2, none⟩ (.int .i64 (fr : Int))).setCell ⟨H, k * 2 + 1, none⟩ (.int .i64 (x : Int)))) := Lib.hid ⟨(HB.out.1.setCell (p := ⟨H, k * 2, none⟩) hwl _).setCell (p := ⟨H, k * 2 + 1, none⟩) hwl _, by
    have h2 := Y5f (Y5f hblk (k * 2) (.int .i64 (fr : Int))) (k * 2 + 1) (.int .i64 (x : Int))
    have h3 := Y4x (Y1x L k) k (fr, x)
    simp only at h3
    rw [h3, ← hgetL, Y7a L k hkL] at h2
    exact h2⟩
   have HADD := Lib.hid hadd
   rw [hfr]
   clear hblk f0 hx2 hx hadd hnext hfr hgetL HB HST hl1
   go_wp2_with fail
   go_roundw
   case rel => exact ⟨k + 1, by omega, by rw [HADD.out], by first | rfl | (push_cast; rfl), HNX⟩
   case measure => simp [intOf]; omega
  ·have hkn : k = 30 := by omega
   subst hkn
   have HB2 := HB.out.2
   have hfin : Y1x L 30 = L := by
    unfold Y1x
    rw [List.take_of_length_le (by rw [HLL.out]; omega), HLL.out]
    simp
   rw [hfin] at HB2
   clear hlt hk
   go_wp2_with fail
   go_ret
   refine ⟨_, rfl, HB.out.1, ?_⟩
   rw [← HL.out, HLL.out]
   exact ⟨by rw [Y0o, HLL.out], .inr ⟨H, 30, _, rfl, hwl, HB2, Nat.le_refl _, by unfold maxLen; omega, by simp [Y0o, HLL.out], by rw [List.take_of_length_le (by simp [Y0o, HLL.out])]⟩⟩
def Y7k (far : Bool) : List (Nat × Nat) := (froms far).zip (extras far)
theorem Ydo : Ycn 3 4 28 ++ [(258, 0)] = Y7k false := by decide +kernel
theorem Yf4 : Ycn 1 2 30 = Y7k true := by decide +kernel
theorem Y9o : ∀ far : Bool, ∀ i, i < (froms far).length → (Y7k far)[i]? = some ((froms far).getD i 0, (extras far).getD i 0) := by decide +kernel
def TabP (w : World) (far : Bool) (e : Ending) (w' : World) : Prop :=
 ∃ v, e = .returned v ∧ Below w.heap.size w w' ∧ w'.ownsRow w.heap.size 102 2 v (froms far).length (bcells (Y7k far))
theorem Y92 (w : World) : Calls Tryz.prog 27 #[] w (TabP w true) := by
 go_enter Tryz.func27, Tryz.ntmps27
 go_wp2_with fail
 refine (Yeo w).mono ?_
 rintro e w1 ⟨v, rfl, hb, ho⟩
 go_wp2_with fail
 go_ret
 rw [Yf4] at ho
 exact ⟨v, rfl, hb, ho⟩
set_option maxHeartbeats 1000000 in
theorem Yby (w : World) : Calls Tryz.prog 26 #[] w (TabP w false) := by
 obtain ⟨i0, hi, hz0, hz1, hz2⟩ := info_parts Tryz.infoBase
 go_enter Tryz.func26, Tryz.ntmps26
 go_wp2_with fail
 refine (Ycy w).mono ?_
 rintro e w1 ⟨v, rfl, hb, ho⟩
 rw [show (Ycn 3 4 28).length = 28 from by simp [Ycn]] at ho
 have hba : Below w1.heap.size w1 (w1.alloc (.cells #[.int .i64 258, .int .i64 0] 102)) := (Below.refl _ w1).alloc (Nat.le_refl _) _
 have hblk : (w1.alloc (.cells #[.int .i64 258, .int .i64 0] 102)).heap[w1.heap.size]? = some (.cells #[.int .i64 258, .int .i64 0] 102 (0, 0)) := Array.getElem?_push_size
 have hnews := World.news_of_block hblk
 have hoa : (w1.alloc (.cells #[.int .i64 258, .int .i64 0] 102)).ownsRow w.heap.size 102 2 v 28 (bcells (Ycn 3 4 28)) := by
  refine ⟨ho.1, ?_⟩
  rcases ho.2 with hn | ⟨g, cap, cur, rfl, hbs, hh, r⟩
  ·exact .inl hn
  ·have hlt : g < w1.heap.size := by
    rcases Nat.lt_or_ge g w1.heap.size with hlt | hge
    ·exact hlt
    ·rw [Array.getElem?_eq_none hge] at hh; cases hh
   exact .inr ⟨g, cap, cur, rfl, hbs, (hba.block g hlt).trans hh, r⟩
 have HB := Lib.hid (hb.trans (hba.mono hb.size))
 have HO := Lib.hid hoa
 have HNW := Lib.hid hnews
 have HBZ := Lib.hid HB.out.size
 clear hb ho hba hblk hnews hoa
 go_wp2_with (at_builtin; refine wpList_append_lies _ rfl _ _ 53 rfl w.heap.size 102 i0 (.agg #[.int .i64 0, .int .i64 0]) 2 16 Tryz.underlying53 hi hz0 hz1 hz2 rfl (by decide) v 28 (bcells (Ycn 3 4 28)) rfl HO.out ⟨w1.heap.size, 0, none⟩ 1 1 [.int .i64 258, .int .i64 0] rfl rfl HNW.out (by intro u hu; simp at hu; rcases hu with rfl | rfl <;> rfl) (by decide) (by unfold maxLen; omega) (by omega) HBZ.out _ rfl ?_)
 intro g1 cap1 w2 hown2 hgrow2 _ _
 have hb2 := (Below.refl w.heap.size (w1.alloc (.cells #[.int .i64 258, .int .i64 0] 102))).grown hgrow2 HBZ.out (fun k hk => (HO.out.lt k hk).1)
 have HB2 := Lib.hid (HB.out.trans hb2)
 have HO2 := Lib.hid hown2
 clear hown2 hgrow2 hb2
 go_wp2_with fail
 go_ret
 refine ⟨_, rfl, HB2.out, ?_⟩
 rw [← Ydo, Y4j]
 exact HO2.out
end Go.Proofs.YtkkfkmoikcmhoaaGreat.Inf
namespace Go.Proofs.YtkkfkmoikcmhoaaGreat.Hf
open Go.RowKit Oct Bit Inf
set_option maxRecDepth 100000
def Y0w (W : List (List Bool)) : List (List UInt8) := W.map fun m => m.map dig
theorem Y2e (W : List (List Bool)) : (Y0w W).length = W.length := by simp [Y0w]
theorem Yau {a b : List Bool} (h : a.map dig = b.map dig) : a = b := by
 have hinj : ∀ a b : Bool, dig a = dig b → a = b := by intro a b; cases a <;> cases b <;> simp [dig]
 exact (List.map_inj_right (f := dig) (fun a b => hinj a b)).1 h
theorem Y7u {W : List (List Bool)} {i : Nat} {m : List Bool} : (Y0w W)[i]? = some (m.map dig) ↔ W[i]? = some m := by
 unfold Y0w
 rw [List.getElem?_map]
 cases W[i]? with
 | none => simp
 | some x =>
  simp only [Option.map_some, Option.some.injEq]
  exact ⟨Yau, fun e => by rw [e]⟩
section
variable {W : List (List Bool)} {A : List Bool → Option (Nat × Nat)} {E : List Bool → Option Nat}
theorem St.mem (h : St (Y0w W) (Y0w W).length A E) {q : List Bool} (hq : q ≠ []) {i : Nat} : E q = some i ↔ W[i]? = some q := by
 constructor
 ·intro e
  exact Y7u.1 (h.e1 q i e).2.2
 ·intro e
  have hi : i < W.length := (List.getElem?_eq_some_iff.1 e).1
  rcases h.e2 i _ (by rw [Y2e]; exact hi) (Y7u.2 e) with e' | ⟨r, hr, _, hE⟩
  ·exact absurd (by simpa using e') hq
  ·rw [Yau hr]; exact hE
theorem Yfp (h : St (Y0w W) (Y0w W).length A E) {p t : List Bool} {x : Bool} {i : Nat} (he : E (p ++ [x]) = some i) : Y0v W p (x :: t) = .ok (i, p.length + 1) := by
 have hm := (h.mem (by simp)).1 he
 have hmem : p ++ [x] ∈ W := List.mem_of_getElem? hm
 have hl := List.idxOf_lt_length_of_mem hmem
 have hj := (h.mem (q := p ++ [x]) (by simp) (i := W.idxOf (p ++ [x]))).2 (by rw [List.getElem?_eq_getElem hl, List.getElem_idxOf])
 rw [he] at hj
 injection hj with hj
 rw [Y0v, if_pos hmem, ← hj]
theorem Yfr (h : St (Y0w W) (Y0w W).length A E) {p t : List Bool} {x : Bool} (ha : A (p ++ [x]) = none) : Y0v W p (x :: t) = .error 6 := by
 have key : ∀ r, r ∈ W → r ≠ [] → ¬ p ++ [x] <+: r := by
  intro r hr hne hp
  obtain ⟨j, hj⟩ := List.mem_iff_getElem?.1 hr
  have := (h.mem hne).2 hj
  exact h.a2 _ r (by rw [this]; simp) hp ha
 rw [Y0v, if_neg fun hm => key _ hm (by simp) (List.prefix_refl _), if_neg]
 intro hany
 obtain ⟨r, hr, hb⟩ := List.any_eq_true.1 hany
 rw [Bool.and_eq_true] at hb
 exact key r hr (by have := hb.1; intro e; rw [e] at this; simp at this) (List.isPrefixOf_iff_prefix.1 hb.2)
theorem Yky (h : St (Y0w W) (Y0w W).length A E) {p t : List Bool} {x : Bool} (ha : A (p ++ [x]) ≠ none) (he : E (p ++ [x]) = none) : Y0v W p (x :: t) = Y0v W (p ++ [x]) t := by
 have hm : p ++ [x] ∉ W := by
  intro hm
  obtain ⟨j, hj⟩ := List.mem_iff_getElem?.1 hm
  have := (h.mem (by simp)).2 hj
  rw [he] at this
  cases this
 rw [Y0v, if_neg hm, if_pos]
 rcases h.a1 _ ha with e | ⟨r, hr, hp⟩
 ·exact absurd e (by simp)
 ·rcases hk : E r with _ | i
  ·exact absurd hk hr
  ·have hne : r ≠ [] := (h.e1 r i hk).2.1
   refine List.any_eq_true.2 ⟨r, List.mem_of_getElem? ((h.mem hne).1 hk), ?_⟩
   rw [Bool.and_eq_true]
   exact ⟨by simpa using hne, List.isPrefixOf_iff_prefix.2 hp⟩
end
theorem Yht {low : Bool} {xs : List UInt8} {a : Nat} (h : (Y00 low xs).drop a = []) :
  Y52 1 low xs a = 0 ∧ Y2m 1 (8 * xs.length) a = 2 ∧ Y2l 1 (8 * xs.length) a = a := by
 have hl := congrArg List.length h
 rw [List.length_drop, Y02, List.length_nil] at hl
 have ho : okR 1 (8 * xs.length) a = false := by unfold okR Y4m; simp; omega
 refine ⟨?_, ?_, ?_⟩
 ·unfold Y52; rw [ho]; rfl
 ·unfold Y2m; rw [ho]; rfl
 ·unfold Y2l; rw [ho]; rfl
def ReadL (w : World) (gr : Nat) (p : Option Addr) (cap : Nat) (xs : List UInt8) (a : Nat) (low : Bool) (W : List (List Bool)) (ms : List Value) (z : Value) (e : Ending) (w' : World) : Prop :=
 ((∃ i k v, Y0v W [] ((Y00 low xs).drop a) = .ok (i, k) ∧ ms[i]? = some v ∧ e = .returned (.tuple #[v, .int .i64 0]) ∧ Rd w' gr p cap xs (a + k) low) ∨
   ∃ c b, Y0v W [] ((Y00 low xs).drop a) = .error c ∧ e = .returned (.tuple #[z, .int .i64 (c : Int)]) ∧ Rd w' gr p cap xs b low) ∧ Only (· = gr) w w' ∧ w'.heap.size = w.heap.size
def Known (W : List (List Bool)) (E : List Bool → Option Nat) (l : List Bool) (j : Nat) : Prop :=
 j ≤ l.length ∧ (∀ i, E (l.take j) = some i → Y0v W [] l = .ok (i, j)) ∧ (E (l.take j) = none → Y0v W [] l = Y0v W (l.take j) (l.drop j))
theorem Known.on {W : List (List Bool)} {A : List Bool → Option (Nat × Nat)} {E : List Bool → Option Nat} (h : St (Y0w W) (Y0w W).length A E) {l t : List Bool} {j : Nat} {x : Bool} (hk : Known W E l j) (he : E (l.take j) = none) (hd : l.drop j = x :: t)
  (ha : A (l.take j ++ [x]) ≠ none) : l.take (j + 1) = l.take j ++ [x] ∧ Known W E l (j + 1) := by
 have hj : j < l.length := by
  have := congrArg List.length hd
  simp at this
  omega
 have hx : l[j] = x ∧ l.drop (j + 1) = t := by
  rw [List.drop_eq_getElem_cons hj] at hd
  injection hd with h1 h2
  exact ⟨h1, h2⟩
 have ht : l.take (j + 1) = l.take j ++ [x] := by rw [List.take_succ_eq_append_getElem hj, hx.1]
 have hs := hk.2.2 he
 have hlen : (l.take j).length = j := by rw [List.length_take]; omega
 refine ⟨ht, by omega, fun i hi => ?_, fun hn => ?_⟩
 ·rw [hs, hd, Yfp h (by rw [← ht]; exact hi), hlen]
 ·rw [hs, hd, Yky h ha (by rw [← ht]; exact hn), ht, hx.2]
def BoU (w : World) (B C g : Nat) (ws : List (List UInt8)) (ms : List Value) : Prop :=
 (C ≤ w.heap.size ∧ B ≤ g) ∧ ∃ pw cw pm cm A E, St ws ws.length A E ∧ ws.length ≤ cw ∧ ms.length ≤ cm ∧ ∀ w' : World, (∀ k, B ≤ k → k < C → w'.heap[k]? = w.heap[k]?) →
  Tr w' C g (.slice pw ws.length cw) (.slice pm ms.length cm) A E ∧ VRow w' C pw (strs ws) ∧ VRow w' C pm ms
theorem BkK.boU {w : World} {B g : Nat} {ws : List (List UInt8)} {ms : List Value} (h : BkK w B g ws ms) (hg : B ≤ g) : BoU w B w.heap.size g ws ms := ⟨⟨Nat.le_refl _, hg⟩, h⟩
theorem BoU.same {w w' : World} {B C g : Nat} {ws : List (List UInt8)} {ms : List Value} (h : BoU w B C g ws ms) (hz : w.heap.size ≤ w'.heap.size) (hs : ∀ k, B ≤ k → k < C → w'.heap[k]? = w.heap[k]?) : BoU w' B C g ws ms := by
 obtain ⟨h0, pw, cw, pm, cm, A, E, h1, h2, h3, h4⟩ := h
 exact ⟨⟨Nat.le_trans h0.1 hz, h0.2⟩, pw, cw, pm, cm, A, E, h1, h2, h3, fun w2 hk => h4 w2 fun k a b => (hk k a b).trans (hs k a b)⟩
set_option maxHeartbeats 4000000 in
theorem Y7m (w : World) (B C g : Nat) (W : List (List Bool)) (ms : List Value) (gr : Nat) (p : Option Addr) (cap : Nat) (xs : List UInt8) (a : Nat) (low : Bool)
  (hB : BoU w B C g (Y0w W) ms) (hC : gr < B) (hR : Rd w gr p cap xs a low) (hlen : ms.length = W.length) :
  Calls Tryz.prog 122 #[.pointer (some ⟨g, 0, none⟩), .pointer (some ⟨gr, 0, none⟩)] w (ReadL w gr p cap xs a low W ms (.int .i64 0)) := by
 obtain ⟨⟨hCz, hBg⟩, pw, cw, pm, cm, A, E, hS, hlw, hlm, hAll⟩ := hB
 obtain ⟨hT, hvw, hvm⟩ := hAll w (fun _ _ _ => rfl)
 have HALL : Hid (∀ wr, Only (· = gr) w wr → Tr wr C g (.slice pw (Y0w W).length cw) (.slice pm ms.length cm) A E ∧ VRow wr C pw (strs (Y0w W)) ∧ VRow wr C pm ms) := Lib.hid fun wr ho => hAll wr fun k h1 h2 => ho.2.2.2.2 k (by omega) (fun e => by omega)
 have hgw := hR.lt
 have HTw := Lib.hid hT
 have HS := Lib.hid hS
 have HR0 := Lib.hid hR
 have HVM := Lib.hid hvm
 have HL := Lib.hid hlen
 obtain ⟨l, hl⟩ : ∃ l, l = (Y00 low xs).drop a := ⟨_, rfl⟩
 have HBL := Lib.hid hl
 have HK0 : Hid (Known W E l 0) := Lib.hid ⟨by omega, fun i hi => absurd rfl ((hS.e1 _ i hi).2.1), fun _ => rfl⟩
 clear hT hS hvw hvm hR hlen hl hAll
 go_enter Tryz.func122, Tryz.ntmps122
 go_wp2_with fail
 go_loopw [7, 8, 9] (fun q u s wr => ∃ (j b o : Nat), A (l.take j) = some (b, o) ∧ q = .pointer (some ⟨b, o, none⟩) ∧ Hid (Known W E l j) ∧ Hid (Rd wr gr p cap xs (a + j) low) ∧ Hid (Only (· = gr) w wr) ∧ Hid (wr.heap.size = w.heap.size)) (fun _ _ _ wr => a + l.length + 1 - rdAt gr wr)
 case atStart => exact ⟨0, g, 2, HTw.out.root, rfl, HK0, HR0, Lib.hid (Only.refl _ _), Lib.hid rfl⟩
 case round =>
  obtain ⟨j, b, o, hA, rfl, HK, HR, HO, HZ⟩ := hrel
  have HT := Lib.hid (HALL.out wr HO.out).1
  have HVMr := Lib.hid (HALL.out wr HO.out).2.2
  have hbC := (HT.out.lo _ b o hA).2
  have hgb := (HT.out.lo _ b o hA).1
  have hne := HT.out.ne _ b o hA
  cases hE : E (l.take j) with
  | some i =>
   have HEQ := Lib.hid (HK.out.2.1 i hE)
   have hil : i < ms.length := by
    have := (HS.out.e1 _ i hE).1
    rw [Y2e, ← HL.out] at this
    exact this
   obtain ⟨v, hv⟩ : ∃ v, ms[i]? = some v := ⟨_, List.getElem?_eq_getElem hil⟩
   obtain ⟨bm, om, hpm, hbm, hcm⟩ := Yjt HVMr.out hv
   have HVV := Lib.hid hv
   subst hpm
   rw [hE] at hne
   have hne : wr.cell? ⟨b, o + 2, none⟩ = some (.bool true) := hne
   have hni := HT.out.ni _ b o hA
   rw [hE] at hni
   have hni : wr.cell? ⟨b, o + 3, none⟩ = some (.int .i64 (i : Int)) := hni
   have h1 := HT.out.h1
   have j0 : (0 : Int) ≤ (i : Int) := by omega
   have j1 : (i : Int) < (ms.length : Int) := by omega
   clear hE hv
   generalize ms.length = ml at h1 j1
   go_wp2_with fail
   go_quiet (fail)
   go_wp2_with fail
   go_ret2
   exact ⟨.inl ⟨i, j, v, HBL.out ▸ HEQ.out, HVV.out, rfl, HR.out.drawn ⟨_, rfl⟩⟩, HO.out.trans (Only.drawn _ ⟨_, rfl⟩), HZ.out⟩
  | none =>
   rw [hE] at hne
   have hne : wr.cell? ⟨b, o + 2, none⟩ = some (.bool false) := hne
   have HEN := Lib.hid hE
   have HRD := Lib.hid (Ycd gr p cap xs (a + j) low wr 1 HR.out)
   have hdr : (Y00 low xs).drop (a + j) = l.drop j := by rw [← List.drop_drop, ← HBL.out]
   rcases hd : l.drop j with _ | ⟨x, t⟩
   ·obtain ⟨hv1, he1, ha1⟩ := Yht (hdr.trans hd)
    have HEQ : Hid (Y0v W [] l = .error 2) := Lib.hid (by rw [HK.out.2.2 hE, hd]; rfl)
    have HV := Lib.hid hv1
    have HE := Lib.hid he1
    clear hE hdr hd hv1 he1 ha1
    go_wp2_with fail
    refine HRD.out.mono ?_
    rintro e w4 ⟨rfl, hr4, ho4, hz4⟩
    rw [HV.out, HE.out]
    have HR4 := Lib.hid hr4
    have HO4 := Lib.hid (HO.out.trans ho4)
    have HZ4 := Lib.hid (hz4.trans HZ.out)
    clear hr4 ho4 hz4
    go_wp2_with fail
    go_ret2
    exact ⟨.inr ⟨2, _, HBL.out ▸ HEQ.out, rfl, HR4.out⟩, HO4.out, HZ4.out⟩
   ·obtain ⟨hv1, he1, ha1⟩ := Yhu (hdr.trans hd)
    have HV := Lib.hid hv1
    have HE := Lib.hid he1
    have HA1 := Lib.hid ha1
    rcases hk : A (l.take j ++ [x]) with _ | ⟨b2, o2⟩
    ·have HEQ : Hid (Y0v W [] l = .error 6) := Lib.hid (by rw [HK.out.2.2 hE, hd]; exact Yfr HS.out hk)
     have HKN := Lib.hid hk
     clear hE hdr hd hv1 he1 ha1
     cases x
     ·have hn : wr.cell? ⟨b, o, none⟩ = some (.pointer none) := by
       have := HT.out.n0 _ b o hA
       rw [hk] at this
       exact this
      clear hk
      go_wp2_with fail
      refine HRD.out.mono ?_
      rintro e w4 ⟨rfl, hr4, ho4, hz4⟩
      rw [HV.out, HE.out]
      have HR4 := Lib.hid hr4
      have HO4 := Lib.hid (HO.out.trans ho4)
      have HZ4 := Lib.hid (hz4.trans HZ.out)
      have hn4 : w4.cell? ⟨b, o, none⟩ = some (.pointer none) := by
       rw [← hn]
       exact World.cell?_of_block (ho4.2.2.2.2 b (by have := HZ.out; omega) (by omega))
      clear hr4 ho4 hz4 hn
      go_wp2_with fail
      go_ret2
      exact ⟨.inr ⟨6, _, HBL.out ▸ HEQ.out, rfl, HR4.out⟩, HO4.out, HZ4.out⟩
     ·have hn : wr.cell? ⟨b, o + 1, none⟩ = some (.pointer none) := by
       have := HT.out.n1 _ b o hA
       rw [hk] at this
       exact this
      clear hk
      go_wp2_with fail
      refine HRD.out.mono ?_
      rintro e w4 ⟨rfl, hr4, ho4, hz4⟩
      rw [HV.out, HE.out]
      have HR4 := Lib.hid hr4
      have HO4 := Lib.hid (HO.out.trans ho4)
      have HZ4 := Lib.hid (hz4.trans HZ.out)
      have hn4 : w4.cell? ⟨b, o + 1, none⟩ = some (.pointer none) := by
       rw [← hn]
       exact World.cell?_of_block (ho4.2.2.2.2 b (by have := HZ.out; omega) (by omega))
      clear hr4 ho4 hz4 hn
      go_wp2_with fail
      go_ret2
      exact ⟨.inr ⟨6, _, HBL.out ▸ HEQ.out, rfl, HR4.out⟩, HO4.out, HZ4.out⟩
    ·obtain ⟨htk, hkn⟩ := HK.out.on HS.out hE hd (by rw [hk]; simp)
     have HK2 : Hid (A (l.take (j + 1)) = some (b2, o2)) := Lib.hid (by rw [htk]; exact hk)
     have HKN := Lib.hid hkn
     clear hE hdr hd hv1 he1 ha1 htk hkn
     cases x
     ·have hn : wr.cell? ⟨b, o, none⟩ = some (.pointer (some ⟨b2, o2, none⟩)) := by
       have := HT.out.n0 _ b o hA
       rw [hk] at this
       exact this
      clear hk
      go_wp2_with fail
      refine HRD.out.mono ?_
      rintro e w4 ⟨rfl, hr4, ho4, hz4⟩
      rw [HV.out, HE.out]
      have HR4 := Lib.hid hr4
      have HO4 := Lib.hid (HO.out.trans ho4)
      have HZ4 := Lib.hid (hz4.trans HZ.out)
      have hn4 : w4.cell? ⟨b, o, none⟩ = some (.pointer (some ⟨b2, o2, none⟩)) := by
       rw [← hn]
       exact World.cell?_of_block (ho4.2.2.2.2 b (by have := HZ.out; omega) (by omega))
      clear hr4 ho4 hz4 hn
      go_wp2_with fail
      go_roundw
      case rel => exact ⟨j + 1, b2, o2, HK2.out, rfl, HKN, Lib.hid (by have := HR4.out; rwa [HA1.out, Nat.add_assoc] at this), HO4, HZ4⟩
      case measure => rw [Y8i HR.out, Y8i HR4.out, HA1.out]; have := HK.out.1; omega
     ·have hn : wr.cell? ⟨b, o + 1, none⟩ = some (.pointer (some ⟨b2, o2, none⟩)) := by
       have := HT.out.n1 _ b o hA
       rw [hk] at this
       exact this
      clear hk
      go_wp2_with fail
      refine HRD.out.mono ?_
      rintro e w4 ⟨rfl, hr4, ho4, hz4⟩
      rw [HV.out, HE.out]
      have HR4 := Lib.hid hr4
      have HO4 := Lib.hid (HO.out.trans ho4)
      have HZ4 := Lib.hid (hz4.trans HZ.out)
      have hn4 : w4.cell? ⟨b, o + 1, none⟩ = some (.pointer (some ⟨b2, o2, none⟩)) := by
       rw [← hn]
       exact World.cell?_of_block (ho4.2.2.2.2 b (by have := HZ.out; omega) (by omega))
      clear hr4 ho4 hz4 hn
      go_wp2_with fail
      go_roundw
      case rel => exact ⟨j + 1, b2, o2, HK2.out, rfl, HKN, Lib.hid (by have := HR4.out; rwa [HA1.out, Nat.add_assoc] at this), HO4, HZ4⟩
      case measure => rw [Y8i HR.out, Y8i HR4.out, HA1.out]; have := HK.out.1; omega
end Go.Proofs.YtkkfkmoikcmhoaaGreat.Hf
