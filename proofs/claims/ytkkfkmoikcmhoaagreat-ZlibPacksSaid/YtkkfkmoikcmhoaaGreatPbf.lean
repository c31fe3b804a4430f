/- IiA: merged. -/
import Derived.Laws.Rows
import Derived.Test.YtkkfkmoikcmhoaaGreatPam
import Derived.Test.YtkkfkmoikcmhoaaGreatPbe
set_option linter.unusedVariables false
set_option linter.unusedSimpArgs false
namespace Go.Proofs.YtkkfkmoikcmhoaaGreat.Inf
open Go.RowKit Oct Bit Hf
set_option maxRecDepth 100000
theorem Yv4 (l : List Bool) (a n : Nat) (h : a + n ≤ l.length) : Y75 true (l.drop a) n = Y2o true ((l.drop a).take n) := by
 unfold Y75
 rw [List.take_append_of_le_length (by rw [List.length_drop]; omega)]
theorem Y1q {l : List Bool} {a n m b : Nat} (h : Y1k l a n = .ok (m, b)) : m < 2 ^ n ∧ b = a + n ∧ b ≤ l.length := by
 unfold Y1k at h
 split at h
 ·rename_i hc
  cases h
  have h1 := Ydp true ((l.drop a).take n)
  rw [List.length_take, List.length_drop, Nat.min_eq_left (by omega)] at h1
  exact ⟨h1, rfl, hc⟩
 ·cases h
theorem Y56 {l : List Bool} {a n c : Nat} (h : Y1k l a n = .error c) : c = 2 ∧ l.length < a + n := by
 unfold Y1k at h
 split at h
 ·cases h
 ·cases h; exact ⟨rfl, by omega⟩
theorem Yol (n : Nat) (h : n ≤ 32) : Y8j (n : Int) = true := by unfold Y8j; simp; omega
theorem Yvn (l : List Bool) (a n m b : Nat) (w : World) (hl : l.length ≤ 100000) (hn : n ≤ 32) (h : Y1k l a n = .ok (m, b)) :
  Calls Tryz.prog 63 #[.string (ds l), .int .i64 (a : Int), .int .i64 (n : Int), .bool true] w fun e w' => e = .returned (.tuple #[.int .u32 (m : Int), .int .i64 (b : Int), .int .i64 0]) ∧ w = w' := by
 obtain ⟨_, rfl, h2⟩ := Y1q h
 have hk : okR (n : Int) l.length a = true := by unfold okR; rw [Yol n hn]; simp; omega
 refine (Ygc l a n true w (by omega) hl).mono ?_
 rintro e w' ⟨rfl, rfl⟩
 refine ⟨?_, rfl⟩
 have h3 : m = Y2o true ((l.drop a).take n) := by
  unfold Y1k at h
  rw [if_pos h2] at h
  cases h; rfl
 unfold rrV Y5k Y5l
 rw [hk, if_pos rfl, if_pos rfl, if_pos rfl, Int.toNat_natCast, Yv4 l a n h2, h3]
theorem Yrc (l : List Bool) (a n c : Nat) (w : World) (ha : a ≤ l.length) (hl : l.length ≤ 100000) (hn : n ≤ 32) (h : Y1k l a n = .error c) :
  Calls Tryz.prog 63 #[.string (ds l), .int .i64 (a : Int), .int .i64 (n : Int), .bool true] w fun e w' => e = .returned (.tuple #[.int .u32 0, .int .i64 (a : Int), .int .i64 2]) ∧ w = w' := by
 obtain ⟨rfl, h2⟩ := Y56 h
 have hk : okR (n : Int) l.length a = false := by unfold okR; rw [Yol n hn]; simp; omega
 refine (Ygc l a n true w ha hl).mono ?_
 rintro e w' ⟨rfl, rfl⟩
 refine ⟨?_, rfl⟩
 unfold rrV Y5k Y5l
 rw [hk, Yol n hn]
 rfl
theorem Ycn : (Tryz.prog.info? 69).map (·.size) = some 4 := by kernel_rfl
theorem Y0y {fn : Func} {p u v : Tmp} (h : fn.results = #[.cell p 69, .tmp u, .tmp v]) (tmps : Array Value) (w : World) (g : Nat) (c0 c1 c2 c3 : Value) (fr : Nat × Nat)
  (hp : tmps.getD p undef = .pointer (some ⟨g, 0, none⟩)) (hg : w.heap[g]? = some (.cells #[c0, c1, c2, c3] 69 fr)) :
  (results fn tmps).run Tryz.prog w = .ok (.tuple #[.agg #[c0, c1, c2, c3], tmps.getD u undef, tmps.getD v undef]) w := by
 have hp' : tmps[p]?.getD undef = .pointer (some ⟨g, 0, none⟩) := by simpa using hp
 simp [results, h, hp', asAddr, run_loadVar_row w g 69 69 #[c0, c1, c2, c3] fr _ hg Tryz.underlying69 rfl Ycn]
theorem Y0g {fn : Func} {p u : Tmp} (h : fn.results = #[.cell p 69, .tmp u]) (tmps : Array Value) (w : World) (g : Nat) (c0 c1 c2 c3 : Value) (fr : Nat × Nat)
  (hp : tmps.getD p undef = .pointer (some ⟨g, 0, none⟩)) (hg : w.heap[g]? = some (.cells #[c0, c1, c2, c3] 69 fr)) :
  (results fn tmps).run Tryz.prog w = .ok (.tuple #[.agg #[c0, c1, c2, c3], tmps.getD u undef]) w := by
 have hp' : tmps[p]?.getD undef = .pointer (some ⟨g, 0, none⟩) := by simpa using hp
 simp [results, h, hp', asAddr, run_loadVar_row w g 69 69 #[c0, c1, c2, c3] fr _ hg Tryz.underlying69 rfl Ycn]
set_option maxHeartbeats 4000000 in
theorem Y4k (l : List Bool) (a n most m b : Nat) (q : Option Addr) (len cap : Nat) (w : World) (hl : l.length ≤ 100000) (hn : n ≤ 32) (h : Y1k l a n = .ok (m, b)) :
  Calls Tryz.prog 35 #[.agg #[.string (ds l), .int .i64 (a : Int), .slice q len cap, .int .i64 (most : Int)], .int .i64 (n : Int)] w fun e w' => e = .returned (.tuple #[.agg #[.string (ds l), .int .i64 (b : Int), .slice q len cap, .int .i64 (most : Int)], .int .i64 (m : Int), .int .i64 0]) ∧ Below w.heap.size w w' := by
 obtain ⟨h1, h2, h3⟩ := Y1q h
 have h4 : 2 ^ n ≤ 4294967296 := Nat.pow_le_pow_right (by decide) hn
 have hm0 : (0 : Int) ≤ (m : Int) := by omega
 have hm : (m : Int) < 4294967296 := by omega
 have HR := Lib.hid (fun W => Yvn l a n m b W hl hn h)
 clear h h1 h2 h3 h4
 go_enter Tryz.func35, Tryz.ntmps35
 go_wp2_with fail
 refine (HR.out _).mono ?_
 rintro e w' ⟨rfl, rfl⟩
 go_wp2_with fail
 refine bodyPost_ret (Y0y rfl _ _ (w.heap.size + 1) _ _ _ _ (0, 0) rfl (heap_alloc2_new _ _ _)) rfl ?_
 exact ⟨rfl, ((Below.refl _ w).alloc (Nat.le_refl _) _).alloc (by simp) _⟩
set_option maxHeartbeats 4000000 in
theorem Y7z (l : List Bool) (a n most c : Nat) (q : Option Addr) (len cap : Nat) (w : World) (ha : a ≤ l.length) (hl : l.length ≤ 100000) (hn : n ≤ 32) (h : Y1k l a n = .error c) :
  Calls Tryz.prog 35 #[.agg #[.string (ds l), .int .i64 (a : Int), .slice q len cap, .int .i64 (most : Int)], .int .i64 (n : Int)] w fun e w' => e = .returned (.tuple #[.agg #[.string (ds l), .int .i64 (a : Int), .slice q len cap, .int .i64 (most : Int)], .int .i64 0, .int .i64 2]) ∧ Below w.heap.size w w' := by
 have HR := Lib.hid (fun W => Yrc l a n c W ha hl hn h)
 clear h
 go_enter Tryz.func35, Tryz.ntmps35
 go_wp2_with fail
 refine (HR.out _).mono ?_
 rintro e w' ⟨rfl, rfl⟩
 go_wp2_with fail
 refine bodyPost_ret (Y0y rfl _ _ (w.heap.size + 1) _ _ _ _ (0, 0) rfl (heap_alloc2_new _ _ _)) rfl ?_
 exact ⟨rfl, ((Below.refl _ w).alloc (Nat.le_refl _) _).alloc (by simp) _⟩
end Go.Proofs.YtkkfkmoikcmhoaaGreat.Inf
namespace Go.Proofs.YtkkfkmoikcmhoaaGreat.Inf
open Go.RowKit Oct Bit Hf
set_option maxRecDepth 100000
theorem Yhk (a : List Bool) : (ds a).toList = a.map dig := Y7g _
theorem Ywt (a b : List Bool) : ((ds a).toList == (ds b).toList) = decide (a = b) := by
 rw [Yhk, Yhk, Bool.eq_iff_iff, beq_iff_eq, decide_eq_true_iff]
 refine ⟨fun h => X0g _ _ (by unfold ds; rw [h]), fun h => by rw [h]⟩
theorem Ytx (a : List Bool) : (ds a).toList.isEmpty = a.isEmpty := by
 rw [Yhk]
 cases a <;> rfl
theorem Yb5 (s t : List Bool) : s.isPrefixOf t = decide (s.length ≤ t.length ∧ t.take s.length = s) := by
 rw [Bool.eq_iff_iff, decide_eq_true_iff, List.isPrefixOf_iff_prefix]
 constructor
 ·rintro ⟨r, rfl⟩; simp
 ·rintro ⟨_, h⟩; exact ⟨t.drop s.length, by
   conv => lhs; lhs; rw [← h]
   exact List.take_append_drop _ _⟩
set_option maxHeartbeats 2000000 in
theorem Yih (s t : List Bool) (w : World) (hs : s.length ≤ 100000) (ht : t.length ≤ 100000) : Calls Tryz.prog 129 #[.string (ds s), .string (ds t)] w fun e w' => e = .returned (.bool (s.isPrefixOf t)) ∧ w = w' := by
 have s1 := Y0w s
 have s2 := Y0w t
 by_cases h1 : s.length ≤ t.length
 ·have q1 : decide ((s.length : Int) ≤ (t.length : Int)) = true := by simpa using h1
  have q2 : decide ((t.length : Int) < (s.length : Int)) = false := by simpa using h1
  have x1 : (ds t).extract 0 s.length = ds (t.take s.length) := by rw [Y4p]; rfl
  have x2 := Ywt (t.take s.length) s
  have HP : Hid (s.isPrefixOf t = decide (t.take s.length = s)) := Lib.hid (by rw [Yb5]; simp [h1])
  go_enter Tryz.func129, Tryz.ntmps129
  go_wp2_with fail
  go_ret
  exact ⟨by rw [HP.out]; rfl, rfl⟩
 ·have q1 : decide ((s.length : Int) ≤ (t.length : Int)) = false := by simp; omega
  have q2 : decide ((t.length : Int) < (s.length : Int)) = true := by simp; omega
  have HP : Hid (s.isPrefixOf t = false) := Lib.hid (by rw [Yb5]; simp [h1])
  go_enter Tryz.func129, Tryz.ntmps129
  go_wp2_with fail
  go_ret
  exact ⟨by rw [HP.out]; rfl, rfl⟩
theorem Yq3 {W : List (List Bool)} {D : List Bool} {k : Nat} (h : k < D.length) : Y24 W (D.take k) (D.drop k) = if D.take (k + 1) ∈ W then .ok (W.idxOf (D.take (k + 1)), k + 1)
  else if W.any (fun v => !v.isEmpty && (D.take (k + 1)).isPrefixOf v) then Y24 W (D.take (k + 1)) (D.drop (k + 1)) else .error 6 := by
 rw [List.drop_eq_getElem_cons h, Y24, ← List.take_succ_eq_append_getElem h, List.length_take, Nat.min_eq_left (by omega)]
def pfx (S : List Bool) (v : List Bool) : Bool := !v.isEmpty && S.isPrefixOf v
def RdP (w : World) (W : List (List Bool)) (l : List Bool) (a : Nat) (e : Ending) (w' : World) : Prop :=
 ((∃ i k b, Y24 W [] (l.drop a) = .ok (i, k) ∧ b = a + k ∧ e = .returned (.tuple #[.int .i64 (i : Int), .int .i64 (b : Int), .int .i64 0])) ∨
   ∃ c b : Nat, Y24 W [] (l.drop a) = .error c ∧ (c = 2 ∨ c = 6) ∧ b ≤ l.length ∧ e = .returned (.tuple #[.int .i64 0, .int .i64 (b : Int), .int .i64 (c : Int)])) ∧ w = w'
set_option maxHeartbeats 4000000 in
theorem Ycl (q : Option Addr) (n cap : Nat) (W : List (List Bool)) (l : List Bool) (a : Nat) (w : World) (hv : VRow w w.heap.size q (strs (Y3f W))) (hn : W.length = n) (hn1 : 1 ≤ n) (hn3 : n ≤ 300) (hW : ∀ m ∈ W, m.length ≤ 30) (ha : a ≤ l.length) (hl : l.length ≤ 100000) :
  Calls Tryz.prog 97 #[.slice q n cap, .string (ds l), .int .i64 (a : Int)] w (RdP w W l a) := by
 have HV := Lib.hid hv
 have HN := Lib.hid hn
 have HW := Lib.hid hW
 obtain ⟨b, off, rfl, hbb⟩ := hv.addr (by rw [Y0z, Y8b]; omega)
 have hsz := Y0w l
 clear hv hn hW
 go_enter Tryz.func97, Tryz.ntmps97
 go_wp2_with fail
 go_loop [9, 10, 11, 12] (fun s _ _ _ => ∃ k1 : Nat, 1 ≤ k1 ∧ a + k1 ≤ l.length + 1 ∧ s = .int .i64 (k1 : Int) ∧ Hid (Y24 W [] (l.drop a) = Y24 W ((l.drop a).take (k1 - 1)) ((l.drop a).drop (k1 - 1)))) (fun s _ _ _ => l.length + 2 - (intOf s).toNat)
 case atStart => exact ⟨1, by omega, by omega, rfl, Lib.hid rfl⟩
 case round =>
  obtain ⟨k1, hk1, hk2, rfl, HK⟩ := hrel
  by_cases hlt : a + k1 ≤ l.length
  ·obtain ⟨e1, he1⟩ : ∃ e1, a + k1 = e1 := ⟨_, rfl⟩
   have hek : (a : Int) + (k1 : Int) = (e1 : Int) := by omega
   have ql : decide ((e1 : Int) ≤ (l.length : Int)) = true := by simp; omega
   obtain ⟨S, hS⟩ : ∃ S, S = (l.drop a).take k1 := ⟨_, rfl⟩
   have x1 : (ds l).extract a e1 = ds S := by rw [Y4p, hS, show e1 - a = k1 from by omega]
   have y1 : (a : Int) ≤ (e1 : Int) := by omega
   have y2 : (e1 : Int) ≤ (l.length : Int) := by omega
   have y3 : (0 : Int) ≤ (a : Int) := by omega
   have hSl : S.length = k1 := by rw [hS, List.length_take, List.length_drop]; omega
   have HSL := Lib.hid hSl
   have hst := Yq3 (W := W) (D := l.drop a) (k := k1 - 1) (by rw [List.length_drop]; omega)
   rw [show k1 - 1 + 1 = k1 from by omega, ← hS, ← HK.out] at hst
   have HST := Lib.hid hst
   have HE : Hid (e1 = a + k1 ∧ e1 ≤ l.length) := Lib.hid ⟨he1.symm, by omega⟩
   have HS := Lib.hid hS
   have he1' : e1 ≤ 100000 := by omega
   clear hst hS he1 hSl HK
   go_wp2_with fail
   go_loop [11, 12] (fun sm i => ∃ j : Nat, j ≤ n ∧ i = .int .i64 (j : Int) ∧ sm = .bool ((W.take j).any (pfx S)) ∧ Hid (∀ m ∈ W.take j, m ≠ S)) (fun _ i => n - (intOf i).toNat)
   case atStart => exact ⟨0, by omega, rfl, rfl, Lib.hid (fun m hm => by cases hm)⟩
   case round =>
    obtain ⟨j, hj, rfl, rfl, HJ⟩ := hrel
    by_cases hjn : j < n
    ·have qj : decide ((j : Int) < (n : Int)) = true := by simpa using hjn
     have hjW : j < W.length := by rw [HN.out]; exact hjn
     have cw := Yrr HV.out hjW
     have htk : W.take (j + 1) = W.take j ++ [W.getD j []] := by
      rw [List.take_succ_eq_append_getElem hjW, List.getD_eq_getElem?_getD, List.getElem?_eq_getElem hjW]; rfl
     have hml : (W.getD j []).length ≤ 30 := Yu6 HW.out j
     have hWj : W[j]? = some (W.getD j []) := by rw [List.getD_eq_getElem?_getD, List.getElem?_eq_getElem hjW]; rfl
     obtain ⟨m, hm⟩ : ∃ m, W.getD j [] = m := ⟨_, rfl⟩
     rw [hm] at cw htk hml hWj
     have i1 : (0 : Int) ≤ (j : Int) := by omega
     have i2 : (j : Int) < (n : Int) := by omega
     have x2 := Ywt m S
     have hany : (W.take (j + 1)).any (pfx S) = ((W.take j).any (pfx S) || pfx S m) := by rw [htk, List.any_append]; simp
     obtain ⟨y, hy⟩ : ∃ y, (W.take j).any (pfx S) = y := ⟨_, rfl⟩
     rw [hy] at hany ⊢
     have HANY := Lib.hid hany
     have HTK := Lib.hid htk
     have HWJ := Lib.hid hWj
     clear hany htk hWj hm hy
     by_cases hmS : m = S
     ·have x3 : decide (m = S) = true := by simpa using hmS
      rw [x3] at x2
      have HRES : Hid (Y24 W [] (l.drop a) = .ok (j, k1)) := Lib.hid (by
       have h1 := HWJ.out
       rw [hmS] at h1
       rw [HST.out, if_pos (List.mem_of_getElem? h1), Ypm h1 (fun i hi he => HJ.out S (List.mem_iff_getElem?.2 ⟨i, by rw [List.getElem?_take, if_pos hi]; exact he⟩) rfl)])
      clear x3 hmS
      go_wp2_with fail
      go_ret3
      exact ⟨.inl ⟨j, k1, e1, HRES.out, HE.out.1, rfl⟩, rfl⟩
     ·have x3 : decide (m = S) = false := by simpa using hmS
      rw [x3] at x2
      have HJ2 : Hid (∀ v ∈ W.take (j + 1), v ≠ S) := Lib.hid (by
       intro v hv
       rw [HTK.out] at hv
       rcases List.mem_append.1 hv with h | h
       ·exact HJ.out v h
       ·rw [List.mem_singleton.1 h]; exact hmS)
      clear x3 hmS
      have x4 := Ytx m
      cases y
      ·rcases hme : m with _ | ⟨m0, mt⟩
       ·subst hme
        go_wp2_with fail
        go_round
        case rel => exact ⟨j + 1, by omega, by go_num, by rw [HANY.out]; rfl, HJ2⟩
        case measure => simp [intOf]; omega
       ·rw [hme] at x4
        have HME := Lib.hid hme
        rw [← hme] at x4
        have HBG := Lib.hid (Yih S m w (by rw [HSL.out]; omega) (by omega))
        have x5 : m.isEmpty = false := by rw [hme]; rfl
        rw [x5] at x4
        clear hme
        go_wp2_with fail
        refine HBG.out.mono ?_
        rintro e w' ⟨rfl, rfl⟩
        go_wp2_with fail
        go_round
        case rel => exact ⟨j + 1, by omega, by go_num, by rw [HANY.out]; simp [pfx, x5], HJ2⟩
        case measure => simp [intOf]; omega
      ·go_wp2_with fail
       go_round
       case rel => exact ⟨j + 1, by omega, by go_num, by rw [HANY.out]; rfl, HJ2⟩
       case measure => simp [intOf]; omega
    ·have hjn2 : j = n := by omega
     have qj : decide ((j : Int) < (n : Int)) = false := by simp; omega
     have qjn : decide (j < n) = false := by simp; omega
     have htk : W.take j = W := List.take_of_length_le (by rw [HN.out]; omega)
     rw [htk]
     have hno : S ∉ W := fun h => by
      have := HJ.out S (by rw [htk]; exact h)
      exact this rfl
     have hst := HST.out
     rw [if_neg hno] at hst
     change _ = if W.any (pfx S) = true then _ else _ at hst
     obtain ⟨y, hy⟩ : ∃ y, W.any (pfx S) = y := ⟨_, rfl⟩
     rw [hy] at hst ⊢
     clear hjn hjn2 htk hno hy
     cases y
     ·rw [if_neg (by decide)] at hst
      have HRES := Lib.hid hst
      clear hst
      go_wp2_with fail
      go_ret3
      exact ⟨.inr ⟨6, e1, HRES.out, .inr rfl, HE.out.2, rfl⟩, rfl⟩
     ·rw [if_pos rfl] at hst
      have HRES := Lib.hid hst
      clear hst
      go_wp2_with fail
      go_round
      case rel => exact ⟨k1 + 1, by omega, by have := HE.out; omega, by go_num, Lib.hid (by rw [HRES.out, HS.out]; rfl)⟩
      case measure => simp [intOf]; have := HE.out; omega
  ·have hk3 : a + (k1 - 1) = l.length := by omega
   have hd : (l.drop a).drop (k1 - 1) = [] := by rw [List.drop_drop, hk3, List.drop_length]
   have HRES : Hid (Y24 W [] (l.drop a) = .error 2) := Lib.hid (by rw [HK.out, hd]; rfl)
   have ql : decide ((a : Int) + (k1 : Int) ≤ (l.length : Int)) = false := by simp; omega
   clear hk3 hd hlt
   go_wp2_with fail
   go_ret3
   exact ⟨.inr ⟨2, l.length, HRES.out, .inl rfl, Nat.le_refl _, rfl⟩, rfl⟩
end Go.Proofs.YtkkfkmoikcmhoaaGreat.Inf
namespace Go.Proofs.YtkkfkmoikcmhoaaGreat.Inf
open Go.RowKit Oct Bit Hf
set_option maxRecDepth 100000
theorem Ycc {W : List (List Bool)} {l : List Bool} {a i b : Nat} (h : Y1p W l a = .ok (i, b)) : ∃ k, Y24 W [] (l.drop a) = .ok (i, k) ∧ b = a + k := by
 unfold Y1p at h
 rcases hx : Y24 W [] (l.drop a) with e | ⟨i', k⟩
 ·rw [hx] at h; cases h
 ·rw [hx] at h; cases h; exact ⟨k, rfl, rfl⟩
theorem Yq8 {W : List (List Bool)} {l : List Bool} {a c : Nat} (h : Y1p W l a = .error c) : Y24 W [] (l.drop a) = .error c := by
 unfold Y1p at h
 rcases hx : Y24 W [] (l.drop a) with e | ⟨i', k⟩
 ·rw [hx] at h; cases h; rfl
 ·rw [hx] at h; cases h
theorem Ydm {W : List (List Bool)} {l : List Bool} {a i b : Nat} (h : Y1p W l a = .ok (i, b)) : b ≤ l.length ∧ a < b ∧ i < W.length := by
 obtain ⟨k, h1, rfl⟩ := Ycc h
 have h2 := Yi2 W _ _ _ _ h1
 rw [List.length_drop] at h2
 simp at h2
 refine ⟨by omega, by omega, ?_⟩
 exact Yjq W _ _ _ _ h1
theorem Yrb (q : Option Addr) (n cap : Nat) (W : List (List Bool)) (l : List Bool) (a i b : Nat) (w : World) (hv : VRow w w.heap.size q (strs (Y3f W))) (hn : W.length = n) (hn1 : 1 ≤ n) (hn3 : n ≤ 300) (hW : ∀ m ∈ W, m.length ≤ 30) (ha : a ≤ l.length) (hl : l.length ≤ 100000)
  (h : Y1p W l a = .ok (i, b)) : Calls Tryz.prog 97 #[.slice q n cap, .string (ds l), .int .i64 (a : Int)] w fun e w' => e = .returned (.tuple #[.int .i64 (i : Int), .int .i64 (b : Int), .int .i64 0]) ∧ w = w' := by
 obtain ⟨k, h1, rfl⟩ := Ycc h
 refine (Ycl q n cap W l a w hv hn hn1 hn3 hW ha hl).mono ?_
 rintro e w' ⟨hr, rfl⟩
 rcases hr with ⟨i', k', b, h2, rfl, rfl⟩ | ⟨c, b, h2, _⟩
 ·rw [h1] at h2; cases h2; exact ⟨rfl, rfl⟩
 ·rw [h1] at h2; cases h2
theorem Yms (q : Option Addr) (n cap : Nat) (W : List (List Bool)) (l : List Bool) (a c : Nat) (w : World) (hv : VRow w w.heap.size q (strs (Y3f W))) (hn : W.length = n) (hn1 : 1 ≤ n) (hn3 : n ≤ 300) (hW : ∀ m ∈ W, m.length ≤ 30) (ha : a ≤ l.length) (hl : l.length ≤ 100000)
  (h : Y1p W l a = .error c) : Calls Tryz.prog 97 #[.slice q n cap, .string (ds l), .int .i64 (a : Int)] w fun e w' => (c = 2 ∨ c = 6) ∧ (∃ b : Nat, e = .returned (.tuple #[.int .i64 0, .int .i64 (b : Int), .int .i64 (c : Int)])) ∧ w = w' := by
 have h1 := Yq8 h
 refine (Ycl q n cap W l a w hv hn hn1 hn3 hW ha hl).mono ?_
 rintro e w' ⟨hr, rfl⟩
 rcases hr with ⟨i', k', b, h2, _, _⟩ | ⟨c', b, h2, h3, _, rfl⟩
 ·rw [h1] at h2; cases h2
 ·rw [h1] at h2; cases h2; exact ⟨h3, ⟨b, rfl⟩, rfl⟩
set_option maxHeartbeats 4000000 in
theorem Ye4 (p : Option Addr) (n cp : Nat) (W : List (List Bool)) (l : List Bool) (a i b most : Nat) (q : Option Addr) (len cap : Nat) (w : World) (hv : VRow w w.heap.size p (strs (Y3f W))) (hn : W.length = n) (hn1 : 1 ≤ n) (hn3 : n ≤ 300) (hW : ∀ m ∈ W, m.length ≤ 30) (ha : a ≤ l.length) (hl : l.length ≤ 100000)
  (h : Y1p W l a = .ok (i, b)) :
  Calls Tryz.prog 65 #[.agg #[.string (ds l), .int .i64 (a : Int), .slice q len cap, .int .i64 (most : Int)], .slice p n cp] w fun e w' => e = .returned (.tuple #[.agg #[.string (ds l), .int .i64 (b : Int), .slice q len cap, .int .i64 (most : Int)], .int .i64 (i : Int), .int .i64 0]) ∧ Below w.heap.size w w' := by
 have HB : Hid (∀ A B : Obj, Below w.heap.size w ((w.alloc A).alloc B)) := Lib.hid fun A B => ((Below.refl _ w).alloc (Nat.le_refl _) A).alloc (by simp) B
 have HR := Lib.hid (fun W2 (hb : Below w.heap.size w W2) => Yrb p n cp W l a i b W2 ((hv.below hb (Nat.le_refl _)).mono hb.size) hn hn1 hn3 hW ha hl h)
 clear h hv hn hW
 go_enter Tryz.func65, Tryz.ntmps65
 go_wp2_with fail
 refine (HR.out _ (HB.out _ _)).mono ?_
 rintro e w' ⟨rfl, rfl⟩
 go_wp2_with fail
 refine bodyPost_ret (Y0y rfl _ _ (w.heap.size + 1) _ _ _ _ (0, 0) rfl (heap_alloc2_new _ _ _)) rfl ?_
 exact ⟨rfl, HB.out _ _⟩
set_option maxHeartbeats 4000000 in
theorem Yb7 (p : Option Addr) (n cp : Nat) (W : List (List Bool)) (l : List Bool) (a c most : Nat) (q : Option Addr) (len cap : Nat) (w : World) (hv : VRow w w.heap.size p (strs (Y3f W))) (hn : W.length = n) (hn1 : 1 ≤ n) (hn3 : n ≤ 300) (hW : ∀ m ∈ W, m.length ≤ 30) (ha : a ≤ l.length) (hl : l.length ≤ 100000)
  (h : Y1p W l a = .error c) :
  Calls Tryz.prog 65 #[.agg #[.string (ds l), .int .i64 (a : Int), .slice q len cap, .int .i64 (most : Int)], .slice p n cp] w fun e w' => (c = 2 ∨ c = 6) ∧ (∃ b : Nat, e = .returned (.tuple #[.agg #[.string (ds l), .int .i64 (b : Int), .slice q len cap, .int .i64 (most : Int)], .int .i64 0, .int .i64 (c : Int)])) ∧ Below w.heap.size w w' := by
 have HB : Hid (∀ A B : Obj, Below w.heap.size w ((w.alloc A).alloc B)) := Lib.hid fun A B => ((Below.refl _ w).alloc (Nat.le_refl _) A).alloc (by simp) B
 have HR := Lib.hid (fun W2 (hb : Below w.heap.size w W2) => Yms p n cp W l a c W2 ((hv.below hb (Nat.le_refl _)).mono hb.size) hn hn1 hn3 hW ha hl h)
 clear h hv hn hW
 go_enter Tryz.func65, Tryz.ntmps65
 go_wp2_with fail
 refine (HR.out _ (HB.out _ _)).mono ?_
 rintro e w' ⟨hc, ⟨b, rfl⟩, rfl⟩
 have HC := Lib.hid hc
 clear hc
 go_wp2_with fail
 refine bodyPost_ret (Y0y rfl _ _ (w.heap.size + 1) _ _ _ _ (0, 0) rfl (heap_alloc2_new _ _ _)) rfl ?_
 exact ⟨HC.out, ⟨b, rfl⟩, HB.out _ _⟩
def Bx (V : World) (n : Nat) (c0 c1 c2 c3 : Value) : Prop := V.heap[n]? = some (.cells #[c0, c1, c2, c3] 69 (0, 0))
theorem Bx.cells {V : World} {n : Nat} {c0 c1 c2 c3 : Value} (h : Bx V n c0 c1 c2 c3) : V.cell? ⟨n, 0, none⟩ = some c0 ∧ V.cell? ⟨n, 1, none⟩ = some c1 ∧ V.cell? ⟨n, 2, none⟩ = some c2 ∧ V.cell? ⟨n, 3, none⟩ = some c3 := by
 unfold Bx at h
 refine ⟨?_, ?_, ?_, ?_⟩ <;> simp [World.cell?, h]
theorem Bx.free {V : World} {n : Nat} {c0 c1 c2 c3 : Value} (h : Bx V n c0 c1 c2 c3) : V.frozen? ⟨n, 0, none⟩ = false ∧ V.frozen? ⟨n, 1, none⟩ = false ∧ V.frozen? ⟨n, 2, none⟩ = false ∧ V.frozen? ⟨n, 3, none⟩ = false := by
 unfold Bx at h
 refine ⟨?_, ?_, ?_, ?_⟩ <;> simp [World.frozen?, h]
theorem Bx.lt {V : World} {n : Nat} {c0 c1 c2 c3 : Value} (h : Bx V n c0 c1 c2 c3) : n < V.heap.size := by
 unfold Bx at h
 rcases Nat.lt_or_ge n V.heap.size with hlt | hge
 ·exact hlt
 ·rw [Array.getElem?_eq_none hge] at h; cases h
theorem Bx.below {V V' : World} {n : Nat} {c0 c1 c2 c3 : Value} (h : Bx V n c0 c1 c2 c3) (hb : Below V.heap.size V V') : Bx V' n c0 c1 c2 c3 := by
 have := h.lt
 unfold Bx at h ⊢
 rw [hb.block n this]; exact h
def put4 (V : World) (n : Nat) (u0 u1 u2 u3 : Value) : World := (((V.setCell ⟨n, 0, none⟩ u0).setCell ⟨n, 1, none⟩ u1).setCell ⟨n, 2, none⟩ u2).setCell ⟨n, 3, none⟩ u3
theorem Bx.put {V : World} {n : Nat} {c0 c1 c2 c3 : Value} (h : Bx V n c0 c1 c2 c3) (u0 u1 u2 u3 : Value) : Bx (put4 V n u0 u1 u2 u3) n u0 u1 u2 u3 := by
 unfold Bx put4 at *
 simp [World.setCell, Array.getElem?_modify, h]
theorem Bx.far {V : World} {n m : Nat} {c0 c1 c2 c3 : Value} (h : Bx V n c0 c1 c2 c3) (hm : m ≠ n) (u0 u1 u2 u3 : Value) : Bx (put4 V m u0 u1 u2 u3) n c0 c1 c2 c3 := by
 unfold Bx put4 at *
 simp [World.setCell, Array.getElem?_modify, h, hm]
theorem Y3a (V : World) (n : Nat) (u0 u1 u2 u3 : Value) (x : Addr) (h : n ≠ x.block) : (put4 V n u0 u1 u2 u3).cell? x = V.cell? x := by
 unfold put4
 rw [World.cell?_setCell_far _ _ _ _ h, World.cell?_setCell_far _ _ _ _ h, World.cell?_setCell_far _ _ _ _ h, World.cell?_setCell_far _ _ _ _ h]
theorem Y1w {w V : World} {n C : Nat} (h : Below C w V) (hn : C ≤ n) (u0 u1 u2 u3 : Value) : Below C w (put4 V n u0 u1 u2 u3) := by
 unfold put4
 exact (((h.setCell (p := ⟨n, 0, none⟩) hn u0).setCell (p := ⟨n, 1, none⟩) hn u1).setCell (p := ⟨n, 2, none⟩) hn u2).setCell (p := ⟨n, 3, none⟩) hn u3
theorem Ygt {w w1 : World} {c0 c1 c2 c3 d0 d1 d2 d3 : Value} (hb : Below ((w.alloc (.cells #[c0, c1, c2, c3] 69)).alloc (.cells #[d0, d1, d2, d3] 69)).heap.size ((w.alloc (.cells #[c0, c1, c2, c3] 69)).alloc (.cells #[d0, d1, d2, d3] 69)) w1) :
  Below w.heap.size w w1 ∧ Bx w1 w.heap.size c0 c1 c2 c3 ∧ Bx w1 (w.heap.size + 1) d0 d1 d2 d3 := by
 have h1 : Bx ((w.alloc (.cells #[c0, c1, c2, c3] 69)).alloc (.cells #[d0, d1, d2, d3] 69)) w.heap.size c0 c1 c2 c3 := heap_alloc2_old _ _ _
 have h2 : Bx ((w.alloc (.cells #[c0, c1, c2, c3] 69)).alloc (.cells #[d0, d1, d2, d3] 69)) (w.heap.size + 1) d0 d1 d2 d3 := heap_alloc2_new _ _ _
 have h3 : Below w.heap.size w ((w.alloc (.cells #[c0, c1, c2, c3] 69)).alloc (.cells #[d0, d1, d2, d3] 69)) := ((Below.refl _ w).alloc (Nat.le_refl _) _).alloc (by simp) _
 exact ⟨h3.trans (hb.mono h3.size), h1.below hb, h2.below hb⟩
set_option maxHeartbeats 4000000 in
theorem Ybb (far : Bool) (l : List Bool) (a i most m b : Nat) (E : Int) (q : Option Addr) (len cap : Nat) (w : World) (hl : l.length ≤ 100000) (hi : i < (froms far).length) (hm8 : m < 8192)
  (h : ∀ W, Calls Tryz.prog 35 #[.agg #[.string (ds l), .int .i64 (a : Int), .slice q len cap, .int .i64 (most : Int)], .int .i64 (((extras far).getD i 0 : Nat) : Int)] W fun e w' => e = .returned (.tuple #[.agg #[.string (ds l), .int .i64 (b : Int), .slice q len cap, .int .i64 (most : Int)], .int .i64 (m : Int), .int .i64 E]) ∧ Below W.heap.size W w') :
  Calls Tryz.prog 66 #[.agg #[.string (ds l), .int .i64 (a : Int), .slice q len cap, .int .i64 (most : Int)], .int .i64 (i : Int), .bool far] w fun e w' => e = .returned (.tuple #[.agg #[.string (ds l), .int .i64 (b : Int), .slice q len cap, .int .i64 (most : Int)], .int .i64 (((froms far).getD i 0 + m : Nat) : Int), .int .i64 E]) ∧ Below w.heap.size w w' := by
 obtain ⟨x1, x2, x3, x4⟩ := Yov far
 obtain ⟨n, hn⟩ : ∃ n, (froms far).length = n := ⟨_, rfl⟩
 have HN := Lib.hid hn
 have HEL : Hid ((extras far).length = n) := Lib.hid (x1.trans hn)
 obtain ⟨y1, y2, y3⟩ := Y62 far i hi
 obtain ⟨x, hx⟩ : ∃ x, (froms far).getD i 0 = x := ⟨_, rfl⟩
 obtain ⟨ex, hex⟩ : ∃ ex, (extras far).getD i 0 = ex := ⟨_, rfl⟩
 rw [hx] at y1 y2 ⊢
 rw [hex] at y3 h
 have HX := Lib.hid hx
 have HEX := Lib.hid hex
 have HFR := Lib.hid (fun W => Yfb far W)
 have HNM := Lib.hid h
 have hin : i < n := by omega
 have i1 : (0 : Int) ≤ (i : Int) := by omega
 have i2 : (i : Int) < (n : Int) := by omega
 have i3 : decide ((n : Int) ≤ (i : Int)) = false := by simp; omega
 have i4 : decide (n ≤ i) = false := by simp; omega
 clear x1 x2 x3 x4 hn hi hx hex h
 go_enter Tryz.func66, Tryz.ntmps66
 go_wp2_with fail
 refine (HFR.out _).mono ?_
 rintro e w1 ⟨h1, h2, h3, h4⟩
 rw [HN.out] at h1
 obtain ⟨k1, k2, k3⟩ := Ygt h2
 have HB1 := Lib.hid k1
 have hsz0 : ∀ A B : Obj, ((w.alloc A).alloc B).heap.size = w.heap.size + 2 := fun A B => by simp
 rw [hsz0] at h1 h3 h4
 obtain ⟨g, hg⟩ : ∃ g, w.heap.size = g := ⟨_, rfl⟩
 rw [hg] at h1 h3 h4 k2 k3 ⊢
 subst h1
 have HG := Lib.hid hg
 have HB0 := Lib.hid k2
 have HB6 := Lib.hid k3
 have HV3 := Lib.hid h3
 have HV4 := Lib.hid h4
 clear h2 k1 k2 k3 hsz0 hg h3 h4 HFR
 have HKP : Hid (∀ V, Below w1.heap.size w1 V → V.cell? ⟨g, 0, none⟩ = some (.string (ds l)) ∧ V.cell? ⟨g, 1, none⟩ = some (.int .i64 (a : Int)) ∧ V.cell? ⟨g, 2, none⟩ = some (.slice q len cap) ∧ V.cell? ⟨g, 3, none⟩ = some (.int .i64 (most : Int)) ∧ V.cell? ⟨g + 2 + 1, i, none⟩ = some (.int .i64 (ex : Int))) := Lib.hid fun V hV => by
  obtain ⟨p0, p1, p2, p3⟩ := (HB0.out.below hV).cells
  have p4 := vget9 (HV4.out.below hV (Nat.le_refl _)) (show i < (extras far).length by rw [HEL.out]; exact hin)
  rw [HEX.out] at p4
  exact ⟨p0, p1, p2, p3, p4⟩
 have HBD : Hid (Below w1.heap.size w1 w1.drew) := Lib.hid ((show Drawn w1 w1.drew from ⟨1, rfl⟩).below _)
 have HKT : Hid (∀ V, Below w1.heap.size w1 V → (put4 V g (.string (ds l)) (.int .i64 (b : Int)) (.slice q len cap) (.int .i64 (most : Int))).cell? ⟨g + 2 + 1, i, none⟩ = some (.int .i64 (ex : Int))) := Lib.hid fun V hV => by
  rw [Y3a _ _ _ _ _ _ _ (by show g ≠ g + 2 + 1; omega)]
  exact (HKP.out V hV).2.2.2.2
 obtain ⟨o0, o1, o2, o3, o4⟩ := HKP.out _ (Below.refl _ _)
 obtain ⟨r0, r1, r2, r3, r4⟩ := HKP.out _ HBD.out
 go_wp2_with fail
 refine wp_region_held_drew (S := (fun V => V.cell? ⟨g + 2 + 1, i, none⟩ = some (.int .i64 (ex : Int)))) (by kernel_rfl) r4 (fun hHeld => ?_)
 refine wpAnyH_take (i := 1) (v := ?v1) rfl (by kernel_rfl) (by kernel_rfl) (by kernel_rfl) (fun _ _ _ h => h) (Or.inl ⟨by rfl, fun w hSw => ?y1⟩) hHeld ?r1
 case y1 => (try dsimp only at hSw); first | (go_simp; done) | (go_simp; with_reducible rfl)
 try simp only [Act.put, List.setIfInBounds_toArray, List.set_cons_zero, List.set_cons_succ, List.getElem_toArray, List.getElem_cons_zero, List.getElem_cons_succ]
 refine wpAnyH_take (i := 2) (v := ?v2) rfl (by kernel_rfl) (by kernel_rfl) (by kernel_rfl) (fun _ _ _ h => h) (Or.inl ⟨by rfl, fun w hSw => ?y2⟩) hHeld ?r2
 case y2 => (try dsimp only at hSw); first | (go_simp; done) | (go_simp; with_reducible rfl)
 try simp only [Act.put, List.setIfInBounds_toArray, List.set_cons_zero, List.set_cons_succ, List.getElem_toArray, List.getElem_cons_zero, List.getElem_cons_succ]
 refine wpAnyH_take (i := 3) (v := ?v3) rfl (by kernel_rfl) (by kernel_rfl) (by kernel_rfl) (fun _ _ _ h => h) (Or.inl ⟨by rfl, fun w hSw => ?y3⟩) hHeld ?r3
 case y3 => (try dsimp only at hSw); first | (go_simp; done) | (go_simp; with_reducible rfl)
 try simp only [Act.put, List.setIfInBounds_toArray, List.set_cons_zero, List.set_cons_succ, List.getElem_toArray, List.getElem_cons_zero, List.getElem_cons_succ]
 refine wpAnyH_take (i := 4) (v := ?v4) rfl (by kernel_rfl) (by kernel_rfl) (by kernel_rfl) (fun _ _ _ h => h) (Or.inl ⟨by rfl, fun w hSw => ?y4⟩) hHeld ?r4
 case y4 => (try dsimp only at hSw); first | (go_simp; done) | (go_simp; with_reducible rfl)
 try simp only [Act.put, List.setIfInBounds_toArray, List.set_cons_zero, List.set_cons_succ, List.getElem_toArray, List.getElem_cons_zero, List.getElem_cons_succ]
 refine wpAnyH_ready (rs := [0]) (by kernel_rfl) (by simp) ?_
 refine AllReadyH.cons rfl (fun K hK => ?_) AllReadyH.nil
 go_simp
 refine hK.out _ _ r4 (fun hH0 => ?_)
 clear hK K
 try simp only [Act.put, List.setIfInBounds_toArray, List.set_cons_zero, List.set_cons_succ, List.getElem_toArray, List.getElem_cons_zero, List.getElem_cons_succ]
 refine wpAnyH_ready (rs := [5]) (by kernel_rfl) (by simp) ?_
 refine AllReadyH.cons rfl (fun K hK => ?_) AllReadyH.nil
 go_simp
 refine (HNM.out _).mono ?_
 rintro e w2 ⟨rfl, hb2⟩
 have HB2 := Lib.hid (HBD.out.trans (hb2.mono HBD.out.size))
 clear hb2
 go_wp2_with fail
 refine hK.out _ _ ((HKP.out _ HB2.out).2.2.2.2) (fun hH1 => ?_)
 clear hK K
 try simp only [Act.put, List.setIfInBounds_toArray, List.set_cons_zero, List.set_cons_succ, List.getElem_toArray, List.getElem_cons_zero, List.getElem_cons_succ]
 obtain ⟨p0, p1, p2, p3, _⟩ := HKP.out _ HB2.out
 obtain ⟨f0, f1, f2, f3⟩ := (HB0.out.below HB2.out).free
 refine wpAnyH_take (i := 6) (v := ?v5) rfl (by kernel_rfl) (by kernel_rfl) (by kernel_rfl) (fun _ _ _ h => h) (Or.inl ⟨by rfl, fun w hSw => ?y5⟩) hH1 ?r5
 case y5 => (try dsimp only at hSw); first | (go_simp; done) | (go_simp; with_reducible rfl)
 try simp only [Act.put, List.setIfInBounds_toArray, List.set_cons_zero, List.set_cons_succ, List.getElem_toArray, List.getElem_cons_zero, List.getElem_cons_succ]
 refine wpAnyH_take (i := 7) (v := ?v6) rfl (by kernel_rfl) (by kernel_rfl) (by kernel_rfl) (fun _ _ _ h => h) (Or.inl ⟨by rfl, fun w hSw => ?y6⟩) hH1 ?r6
 case y6 => (try dsimp only at hSw); first | (go_simp; done) | (go_simp; with_reducible rfl)
 try simp only [Act.put, List.setIfInBounds_toArray, List.set_cons_zero, List.set_cons_succ, List.getElem_toArray, List.getElem_cons_zero, List.getElem_cons_succ]
 refine wpAnyH_take (i := 8) (v := ?v7) rfl (by kernel_rfl) (by kernel_rfl) (by kernel_rfl) (fun _ _ _ h => h) (Or.inl ⟨by rfl, fun w hSw => ?y7⟩) hH1 ?r7
 case y7 => (try dsimp only at hSw); first | (go_simp; done) | (go_simp; with_reducible rfl)
 try simp only [Act.put, List.setIfInBounds_toArray, List.set_cons_zero, List.set_cons_succ, List.getElem_toArray, List.getElem_cons_zero, List.getElem_cons_succ]
 refine wpAnyH_take (i := 9) (v := ?v8) rfl (by kernel_rfl) (by kernel_rfl) (by kernel_rfl) (fun _ _ _ h => h) (Or.inl ⟨by rfl, fun w hSw => ?y8⟩) hH1 ?r8
 case y8 => (try dsimp only at hSw); first | (go_simp; done) | (go_simp; with_reducible rfl)
 try simp only [Act.put, List.setIfInBounds_toArray, List.set_cons_zero, List.set_cons_succ, List.getElem_toArray, List.getElem_cons_zero, List.getElem_cons_succ]
 refine wpAnyH_ready (rs := [10]) (by kernel_rfl) (by simp) ?_
 refine AllReadyH.cons rfl (fun K hK => ?_) AllReadyH.nil
 go_simp
 refine hK.out _ _ (HKT.out _ HB2.out) (fun hH2 => ?_)
 clear hK K
 try simp only [Act.put, List.setIfInBounds_toArray, List.set_cons_zero, List.set_cons_succ, List.getElem_toArray, List.getElem_cons_zero, List.getElem_cons_succ]
 refine wpAnyH_take (i := 11) (v := ?v9) rfl (by kernel_rfl) (by kernel_rfl) (by kernel_rfl) (fun _ _ _ h => h) (Or.inl ⟨by rfl, fun w hSw => ?y9⟩) hH2 ?r9
 case y9 => (try dsimp only at hSw); first | (go_simp; done) | (go_simp; with_reducible rfl)
 try simp only [Act.put, List.setIfInBounds_toArray, List.set_cons_zero, List.set_cons_succ, List.getElem_toArray, List.getElem_cons_zero, List.getElem_cons_succ]
 refine wpAnyH_take (i := 12) (v := ?v10) rfl (by kernel_rfl) (by kernel_rfl) (by kernel_rfl) (fun _ _ _ h => h) (Or.inl ⟨by rfl, fun w hSw => ?y10⟩) hH2 ?r10
 case y10 => (try dsimp only at hSw); first | (go_simp; done) | (go_simp; with_reducible rfl)
 try simp only [Act.put, List.setIfInBounds_toArray, List.set_cons_zero, List.set_cons_succ, List.getElem_toArray, List.getElem_cons_zero, List.getElem_cons_succ]
 refine wpAnyH_done (by kernel_rfl) ?_ _
 obtain ⟨w4, hw4⟩ : ∃ w4, w4 = put4 w2 g (.string (ds l)) (.int .i64 (b : Int)) (.slice q len cap) (.int .i64 (most : Int)) := ⟨_, rfl⟩
 have hB4 : Below w.heap.size w w4 := by rw [hw4]; exact Y1w (HB1.out.trans (HB2.out.mono HB1.out.size)) (Nat.le_of_eq HG.out) _ _ _ _
 have hX0 : Bx w4 g (.string (ds l)) (.int .i64 (b : Int)) (.slice q len cap) (.int .i64 (most : Int)) := by rw [hw4]; exact (HB0.out.below HB2.out).put _ _ _ _
 have hX6 : Bx w4 (g + 1) (.string ByteArray.empty) (.int .i64 0) (.slice none 0 0) (.int .i64 0) := by rw [hw4]; exact (HB6.out.below HB2.out).far (by omega) _ _ _ _
 have hc4 : w4.cell? ⟨g + 2, i, none⟩ = some (.int .i64 (x : Int)) := by
  rw [hw4, Y3a _ _ _ _ _ _ _ (by show g ≠ g + 2; omega)]
  have p4 := vget9 (HV3.out.below HB2.out (Nat.le_refl _)) (show i < (froms far).length by rw [HN.out]; exact hin)
  rw [HX.out] at p4
  exact p4
 unfold put4 at hw4
 rw [← hw4]
 clear hw4 o0 o1 o2 o3 o4 r0 r1 r2 r3 r4 p0 p1 p2 p3 f0 f1 f2 f3
 have HB4 := Lib.hid hB4
 have HX0 := Lib.hid hX0
 have HX6 := Lib.hid hX6
 obtain ⟨s0, s1, s2, s3⟩ := hX0.cells
 obtain ⟨t0, t1, t2, t3⟩ := hX6.cells
 obtain ⟨f0, f1, f2, f3⟩ := hX6.free
 obtain ⟨sm, hsm⟩ : ∃ sm, x + m = sm := ⟨_, rfl⟩
 have hsum : IntKind.i64.wrap ((x : Int) + (m : Int)) = (sm : Int) := by rw [IntWalk.i64_in _ (by omega)]; omega
 have hsum2 : (x : Int) + (m : Int) = (sm : Int) := by omega
 have HSM := Lib.hid hsm
 have HD4 : Hid (Below w4.heap.size w4 w4.drew) := Lib.hid ((show Drawn w4 w4.drew from ⟨1, rfl⟩).below _)
 have HKQ : Hid (∀ V : World, V.cell? ⟨g, 0, none⟩ = w4.cell? ⟨g, 0, none⟩ ∧ V.cell? ⟨g, 1, none⟩ = w4.cell? ⟨g, 1, none⟩ ∧ V.cell? ⟨g, 2, none⟩ = w4.cell? ⟨g, 2, none⟩ ∧ V.cell? ⟨g, 3, none⟩ = w4.cell? ⟨g, 3, none⟩ ∧ V.cell? ⟨g + 2, i, none⟩ = w4.cell? ⟨g + 2, i, none⟩ →
   V.cell? ⟨g, 0, none⟩ = some (.string (ds l)) ∧ V.cell? ⟨g, 1, none⟩ = some (.int .i64 (b : Int)) ∧ V.cell? ⟨g, 2, none⟩ = some (.slice q len cap) ∧ V.cell? ⟨g, 3, none⟩ = some (.int .i64 (most : Int)) ∧ V.cell? ⟨g + 2, i, none⟩ = some (.int .i64 (x : Int))) := Lib.hid fun V hV => by
  rw [s0, s1, s2, s3, hc4] at hV
  exact hV
 have HKD := Lib.hid (HKQ.out w4.drew ⟨rfl, rfl, rfl, rfl, rfl⟩)
 have HKW := Lib.hid (HKQ.out (put4 w4.drew (g + 1) (.string (ds l)) (.int .i64 (b : Int)) (.slice q len cap) (.int .i64 (most : Int))) ⟨Y3a _ _ _ _ _ _ _ (by show g + 1 ≠ g; omega), Y3a _ _ _ _ _ _ _ (by show g + 1 ≠ g; omega), Y3a _ _ _ _ _ _ _ (by show g + 1 ≠ g; omega), Y3a _ _ _ _ _ _ _ (by show g + 1 ≠ g; omega), Y3a _ _ _ _ _ _ _ (by show g + 1 ≠ g + 2; omega)⟩)
 clear hB4 hX0 hX6 hsm HKQ
 go_wp2_with fail
 go_region_held3 (fun V => V.cell? ⟨g, 0, none⟩ = some (.string (ds l)) ∧ V.cell? ⟨g, 1, none⟩ = some (.int .i64 (b : Int)) ∧ V.cell? ⟨g, 2, none⟩ = some (.slice q len cap) ∧ V.cell? ⟨g, 3, none⟩ = some (.int .i64 (most : Int)) ∧ V.cell? ⟨g + 2, i, none⟩ = some (.int .i64 (x : Int))) (first | exact HKD.out | exact HKW.out) (first | fail)
 have hwsm : IntKind.i64.wrap (sm : Int) = (sm : Int) := IntWalk.i64_in _ (by omega)
 rw [hwsm]
 have hbx : Bx (put4 w4 (g + 1) (.string (ds l)) (.int .i64 (b : Int)) (.slice q len cap) (.int .i64 (most : Int))).drew (g + 1) (.string (ds l)) (.int .i64 (b : Int)) (.slice q len cap) (.int .i64 (most : Int)) := HX6.out.put _ _ _ _
 have hbf : Below w.heap.size w (put4 w4 (g + 1) (.string (ds l)) (.int .i64 (b : Int)) (.slice q len cap) (.int .i64 (most : Int))).drew := (Y1w HB4.out (by rw [HG.out]; omega) _ _ _ _).trans ((show Drawn _ _ from ⟨1, rfl⟩).below _)
 go_wp2_with fail
 refine bodyPost_ret (Y0y rfl _ _ (g + 1) _ _ _ _ (0, 0) rfl hbx) rfl ?_
 exact ⟨by rw [HSM.out]; rfl, hbf⟩
theorem Yci (far : Bool) (l : List Bool) (a i most m b : Nat) (q : Option Addr) (len cap : Nat) (w : World) (hl : l.length ≤ 100000) (hi : i < (froms far).length)
  (h : Y1k l a ((extras far).getD i 0) = .ok (m, b)) :
  Calls Tryz.prog 66 #[.agg #[.string (ds l), .int .i64 (a : Int), .slice q len cap, .int .i64 (most : Int)], .int .i64 (i : Int), .bool far] w fun e w' => e = .returned (.tuple #[.agg #[.string (ds l), .int .i64 (b : Int), .slice q len cap, .int .i64 (most : Int)], .int .i64 (((froms far).getD i 0 + m : Nat) : Int), .int .i64 0]) ∧ Below w.heap.size w w' := by
 have y3 := (Y62 far i hi).2.2
 refine Ybb far l a i most m b 0 q len cap w hl hi ?_ (fun W => Y4k l a _ most m b q len cap W hl (by omega) h)
 have h1 := (Y1q h).1
 have h2 : 2 ^ ((extras far).getD i 0) ≤ 2 ^ 13 := Nat.pow_le_pow_right (by decide) y3
 have h3 : 2 ^ 13 = 8192 := by decide
 omega
theorem Yb9 (far : Bool) (l : List Bool) (a i most c : Nat) (q : Option Addr) (len cap : Nat) (w : World) (ha : a ≤ l.length) (hl : l.length ≤ 100000) (hi : i < (froms far).length)
  (h : Y1k l a ((extras far).getD i 0) = .error c) :
  Calls Tryz.prog 66 #[.agg #[.string (ds l), .int .i64 (a : Int), .slice q len cap, .int .i64 (most : Int)], .int .i64 (i : Int), .bool far] w fun e w' => (∃ n : Nat, e = .returned (.tuple #[.agg #[.string (ds l), .int .i64 (a : Int), .slice q len cap, .int .i64 (most : Int)], .int .i64 (n : Int), .int .i64 2])) ∧ Below w.heap.size w w' := by
 have y3 := (Y62 far i hi).2.2
 refine (Ybb far l a i most 0 a 2 q len cap w hl hi (by decide) (fun W => Y7z l a _ most c q len cap W ha hl (by omega) h)).mono ?_
 rintro e w' ⟨h1, h2⟩
 exact ⟨⟨_, h1⟩, h2⟩
set_option maxHeartbeats 4000000 in
theorem Yba (far : Bool) (l : List Bool) (a i most : Nat) (q : Option Addr) (len cap : Nat) (w : World) (hi : (froms far).length ≤ i) :
  Calls Tryz.prog 66 #[.agg #[.string (ds l), .int .i64 (a : Int), .slice q len cap, .int .i64 (most : Int)], .int .i64 (i : Int), .bool far] w fun e w' => e = .returned (.tuple #[.agg #[.string (ds l), .int .i64 (a : Int), .slice q len cap, .int .i64 (most : Int)], .int .i64 0, .int .i64 6]) ∧ Below w.heap.size w w' := by
 obtain ⟨x1, x2, x3, x4⟩ := Yov far
 obtain ⟨n, hn⟩ : ∃ n, (froms far).length = n := ⟨_, rfl⟩
 have HN := Lib.hid hn
 have HFR := Lib.hid (fun W => Yfb far W)
 have i3 : decide ((n : Int) ≤ (i : Int)) = true := by simp; omega
 have i4 : decide (n ≤ i) = true := by simp; omega
 clear x1 x2 x3 x4 hn hi
 go_enter Tryz.func66, Tryz.ntmps66
 go_wp2_with fail
 refine (HFR.out _).mono ?_
 rintro e w1 ⟨h1, h2, h3, h4⟩
 rw [HN.out] at h1
 obtain ⟨k1, k2, k3⟩ := Ygt h2
 have HB1 := Lib.hid k1
 subst h1
 obtain ⟨g, hg⟩ : ∃ g, w.heap.size = g := ⟨_, rfl⟩
 rw [hg] at k2 k3 ⊢
 have HG := Lib.hid hg
 have HB6 := Lib.hid k3
 obtain ⟨s0, s1, s2, s3⟩ := k2.cells
 obtain ⟨t0, t1, t2, t3⟩ := k3.cells
 obtain ⟨f0, f1, f2, f3⟩ := k3.free
 clear h2 k1 k2 k3 hg h3 h4 HFR
 go_wp2_with fail
 refine bodyPost_ret (Y0y rfl _ _ (g + 1) _ _ _ _ (0, 0) rfl (HB6.out.put (.string (ds l)) (.int .i64 (a : Int)) (.slice q len cap) (.int .i64 (most : Int)))) rfl ?_
 exact ⟨rfl, Y1w HB1.out (by rw [HG.out]; omega) _ _ _ _⟩
end Go.Proofs.YtkkfkmoikcmhoaaGreat.Inf
namespace Go.Proofs.YtkkfkmoikcmhoaaGreat.Inf
open Go.RowKit Oct Bit Hf
set_option maxRecDepth 100000
def StP (w : World) (v : Value) (L : List Bool) (most : Nat) (X : R (List UInt8)) (e : Ending) (w' : World) : Prop :=
 ∃ (a : Nat) (q : Option Addr) (n cap : Nat), Only (fun k => v.ownBlock = some k) w w' ∧ (∀ k, (Value.slice q n cap).ownBlock = some k → v.ownBlock = some k ∨ w.heap.size ≤ k) ∧
  ((∃ o, X = .ok (o, a) ∧ o.length = n ∧ n ≤ most ∧ w'.ownsRow 0 5 1 (.slice q n cap) n (cellsOf o) ∧ e = .returned (.tuple #[.agg #[.string (ds L), .int .i64 (a : Int), .slice q n cap, .int .i64 (most : Int)], .int .i64 0])) ∨
   ∃ c : Nat, X = .error c ∧ c ≠ 0 ∧ c ≤ 8 ∧ e = .returned (.tuple #[.agg #[.string (ds L), .int .i64 (a : Int), .slice q n cap, .int .i64 (most : Int)], .int .i64 (c : Int)]))
theorem Bx.only {S : Nat → Prop} {V V' : World} {n : Nat} {c0 c1 c2 c3 : Value} (h : Bx V n c0 c1 c2 c3) (ho : Only S V V') (hs : ¬ S n) : Bx V' n c0 c1 c2 c3 := by
 have := h.lt
 unfold Bx at h ⊢
 rw [ho.2.2.2.2 n this hs]; exact h
structure Stt (w : World) (v0 : Value) (g : Nat) (L : List Bool) (most : Nat) (a : Nat) (v : Value) (out : List UInt8) (wr : World) : Prop where
 b : Bx wr g (.string (ds L)) (.int .i64 (a : Int)) v (.int .i64 (most : Int))
 r : Bx wr (g + 1) (.string ByteArray.empty) (.int .i64 0) (.slice none 0 0) (.int .i64 0)
 own : wr.ownsRow 0 5 1 v out.length (cellsOf out)
 sep : ∀ k, v.ownBlock = some k → k ≠ g ∧ k ≠ g + 1
 on : Only (fun k => v0.ownBlock = some k) w wr
 fr : ∀ k, v.ownBlock = some k → v0.ownBlock = some k ∨ w.heap.size ≤ k
 hg : w.heap.size = g
 le : a ≤ L.length
theorem Stt.start {w : World} {L : List Bool} {most a : Nat} {q : Option Addr} {n cap : Nat} {out : List UInt8} (h : w.ownsRow 0 5 1 (.slice q n cap) n (cellsOf out)) (hn : out.length = n) (ha : a ≤ L.length) :
  Stt w (.slice q n cap) w.heap.size L most a (.slice q n cap) out ((w.alloc (.cells #[.string (ds L), .int .i64 (a : Int), .slice q n cap, .int .i64 (most : Int)] 69)).alloc (.cells #[.string ByteArray.empty, .int .i64 0, .slice none 0 0, .int .i64 0] 69)) where
 b := heap_alloc2_old _ _ _
 r := heap_alloc2_new _ _ _
 own := by rw [hn]; exact Y1s h (((Below.refl _ w).alloc (Nat.le_refl _) _).alloc (by simp) _)
 sep := fun k hk => by have := (h.lt k hk).2; omega
 on := Only.of_below (((Below.refl _ w).alloc (Nat.le_refl _) _).alloc (by simp) _)
 fr := fun k hk => .inl hk
 hg := rfl
 le := ha
theorem Stt.lt2 {w wr : World} {v0 v : Value} {g : Nat} {L : List Bool} {most a : Nat} {out : List UInt8} (h : Stt w v0 g L most a v out wr) : g + 1 < wr.heap.size := h.r.lt
theorem Stt.keep {w wr w2 : World} {v0 v : Value} {g : Nat} {L : List Bool} {most a : Nat} {out : List UInt8} (h : Stt w v0 g L most a v out wr) (hb : Below wr.heap.size wr w2) : Stt w v0 g L most a v out w2 where
 b := h.b.below hb
 r := h.r.below hb
 own := Y1s h.own hb
 sep := h.sep
 on := h.on.trans (Only.of_below hb)
 fr := h.fr
 hg := h.hg
 le := h.le
theorem Y57 {S : Nat → Prop} {w wr : World} (h : Only S w wr) {p : Addr} (hp : w.heap.size ≤ p.block) (u : Value) : Only S w (wr.setCell p u) :=
 ⟨h.1, h.2.1, h.2.2.1, by simpa [World.setCell] using h.2.2.2.1, fun k hk hs => by
  rw [← h.2.2.2.2 k hk hs]
  simp only [World.setCell, Array.getElem?_modify]
  rw [if_neg (by omega)]⟩
theorem Y4v {S : Nat → Prop} {w wr : World} (h : Only S w wr) {g : Nat} (hg : w.heap.size ≤ g) (u0 u1 u2 u3 : Value) : Only S w (put4 wr g u0 u1 u2 u3) :=
 Y57 (Y57 (Y57 (Y57 h (p := ⟨g, 0, none⟩) hg u0) (p := ⟨g, 1, none⟩) hg u1) (p := ⟨g, 2, none⟩) hg u2) (p := ⟨g, 3, none⟩) hg u3
theorem Y4b {wr : World} {v : Value} {n g : Nat} {cs : List Value} (h : wr.ownsRow 0 5 1 v n cs) (hs : ∀ k, v.ownBlock = some k → k ≠ g) (u0 u1 u2 u3 : Value) : (put4 wr g u0 u1 u2 u3).ownsRow 0 5 1 v n cs :=
 ownsRow_setCell_other (ownsRow_setCell_other (ownsRow_setCell_other (ownsRow_setCell_other h (a := ⟨g, 0, none⟩) (fun e => hs _ e rfl) u0) (a := ⟨g, 1, none⟩) (fun e => hs _ e rfl) u1) (a := ⟨g, 2, none⟩) (fun e => hs _ e rfl) u2) (a := ⟨g, 3, none⟩) (fun e => hs _ e rfl) u3
theorem Stt.put {w wr : World} {v0 v : Value} {g : Nat} {L : List Bool} {most a : Nat} {out : List UInt8} (h : Stt w v0 g L most a v out wr) (b : Nat) (hb : b ≤ L.length) :
  Stt w v0 g L most b v out (put4 wr g (.string (ds L)) (.int .i64 (b : Int)) v (.int .i64 (most : Int))) where
 b := h.b.put _ _ _ _
 r := h.r.far (by omega) _ _ _ _
 own := Y4b h.own (fun k hk => (h.sep k hk).1) _ _ _ _
 sep := h.sep
 on := Y4v h.on (Nat.le_of_eq h.hg) _ _ _ _
 fr := h.fr
 hg := h.hg
 le := hb
end Go.Proofs.YtkkfkmoikcmhoaaGreat.Inf
namespace Go.Proofs.YtkkfkmoikcmhoaaGreat.Inf
open Go.RowKit Oct Bit Hf
set_option maxRecDepth 100000
theorem Stt.done {w wr : World} {v0 : Value} {g : Nat} {L : List Bool} {most a : Nat} {q : Option Addr} {n c : Nat} {out : List UInt8} (h : Stt w v0 g L most a (.slice q n c) out wr) (hn : out.length = n) :
  Only (fun k => v0.ownBlock = some k) w (put4 wr (g + 1) (.string (ds L)) (.int .i64 (a : Int)) (.slice q n c) (.int .i64 (most : Int))) ∧
  (∀ k, (Value.slice q n c).ownBlock = some k → v0.ownBlock = some k ∨ w.heap.size ≤ k) ∧
  (put4 wr (g + 1) (.string (ds L)) (.int .i64 (a : Int)) (.slice q n c) (.int .i64 (most : Int))).ownsRow 0 5 1 (.slice q n c) n (cellsOf out) ∧
  Bx (put4 wr (g + 1) (.string (ds L)) (.int .i64 (a : Int)) (.slice q n c) (.int .i64 (most : Int))) (g + 1) (.string (ds L)) (.int .i64 (a : Int)) (.slice q n c) (.int .i64 (most : Int)) := by
 have ho := h.own
 rw [hn] at ho
 exact ⟨Y4v h.on (by have := h.hg; omega) _ _ _ _, h.fr, Y4b ho (fun k hk => (h.sep k hk).2) _ _ _ _, h.r.put _ _ _ _⟩
theorem Bx.set1 {V : World} {n m i : Nat} {c0 c1 c2 c3 : Value} (h : Bx V n c0 c1 c2 c3) (hm : m ≠ n) (u : Value) : Bx (V.setCell ⟨m, i, none⟩ u) n c0 c1 c2 c3 := by
 unfold Bx at *
 rw [Below.heap_setCell _ _ _ _ (by show n ≠ m; omega)]
 exact h
theorem Ynz {W : World} {ops : Array Oper} {rest : List Oper} {o : Oper} {a : Act} {Q : Exit → Act → World → Prop} (hgd : o.guard = none) (s x : Operand)
  (ho : o.op = .call { callee := .builtin .append, args := #[s, x], argTypes := #[22, 22] }) (v : Value) (out : List UInt8) (y : UInt8) (z : Int) (hz : (y.toNat : Int) = z) (hs : a.eval s = v)
  (hown : W.ownsRow 0 5 1 v out.length (cellsOf out)) (H : Nat) (hH : W.heap.size = H) (hx : a.eval x = .slice (some ⟨H, 0, none⟩) 1 1) (n : Nat) (hn : out.length = n) (hl : n ≤ 100000)
  (h : ∀ g cap w', n + 1 ≤ cap → cap ≤ 2 ^ 63 - 1 → w'.ownsRow 0 5 1 (.slice (some ⟨g, 0, none⟩) (out.length + 1) cap) (out ++ [y]).length (cellsOf (out ++ [y])) → Only (fun k => v.ownBlock = some k) (W.alloc (.cells #[.int .u8 z] 5)) w' → (v.ownBlock = some g ∨ g = H + 1) →
   wpList Tryz.prog ops Q rest (a.put o.dst (.slice (some ⟨g, 0, none⟩) (n + 1) cap)) w') : wpList Tryz.prog ops Q (o :: rest) a (W.alloc (.cells #[.int .u8 z] 5)) := by
 subst hz hH hn
 obtain ⟨i0, hi, hz0, hz1, hz2⟩ := info_parts Tryz.infoByte
 refine wpList_append_lies _ hgd s x 22 ho 0 5 i0 (.int .u8 0) 1 1 Tryz.underlying22 hi hz0 hz1 hz2 rfl (by decide) v out.length (cellsOf out) hs (Y1s hown ((Below.refl _ W).alloc (Nat.le_refl _) _)) ⟨W.heap.size, 0, none⟩ 1 1 (cellsOf [y]) hx rfl (news8 W y) Y3q (by decide) (by unfold maxLen; omega) (by omega) (Nat.zero_le _) _ rfl ?_
 intro g cap w' h1 h2 h3 _
 rw [← Y20] at h1
 have h4 : w'.ownsRow 0 5 1 (.slice (some ⟨g, 0, none⟩) (out.length + 1) cap) (out ++ [y]).length (cellsOf (out ++ [y])) := by rw [List.length_append]; exact h1
 obtain ⟨g', cap', e, q1, q2, _⟩ := Y7t h1 (fun h => by cases h)
 cases e
 exact h g cap w' q1 (by unfold maxLen at q2; exact q2) h4 (Y4u h2) (h3.imp id (fun e => by rw [e]; simp))
theorem Stt.grow {w wr w2 w6 : World} {v0 v : Value} {g g' cap' : Nat} {L : List Bool} {most a b : Nat} {out : List UInt8} {y : UInt8} {A B : Obj} (h : Stt w v0 g L most a v out wr) (hb2 : Below wr.heap.size wr w2)
  (ho : w6.ownsRow 0 5 1 (.slice (some ⟨g', 0, none⟩) (out.length + 1) cap') (out ++ [y]).length (cellsOf (out ++ [y]))) (hon : Only (fun k => v.ownBlock = some k) ((w2.alloc A).alloc B) w6) (hat : v.ownBlock = some g' ∨ g' = w2.heap.size + 2) (hbL : b ≤ L.length) :
  Stt w v0 g L most b (.slice (some ⟨g', 0, none⟩) (out.length + 1) cap') (out ++ [y]) (put4 (w6.setCell ⟨w2.heap.size, 2, none⟩ (.slice (some ⟨g', 0, none⟩) (out.length + 1) cap')) g (.string (ds L)) (.int .i64 (b : Int)) (.slice (some ⟨g', 0, none⟩) (out.length + 1) cap') (.int .i64 (most : Int))) := by
 have hz := h.lt2
 have hz2 := hb2.size
 have hba : Below w2.heap.size w2 ((w2.alloc A).alloc B) := ((Below.refl _ w2).alloc (Nat.le_refl _) A).alloc (by simp) B
 have hw := h.hg
 have hlt : ∀ k, v.ownBlock = some k → k < wr.heap.size := fun k hk => (h.own.lt k hk).2
 have hsep : g' ≠ g ∧ g' ≠ g + 1 ∧ g' ≠ w2.heap.size := by
  rcases hat with e | e
  ·have h1 := h.sep _ e
   have h2 := hlt _ e
   exact ⟨h1.1, h1.2, by omega⟩
  ·exact ⟨by omega, by omega, by omega⟩
 have hns : ∀ k, k = g ∨ k = g + 1 → ¬ (v.ownBlock = some k) := fun k hk e => by
  have h1 := h.sep _ e
  rcases hk with hk | hk
  ·exact h1.1 hk
  ·exact h1.2 hk
 refine ⟨?_, ?_, ?_, ?_, ?_, ?_, hw, hbL⟩
 ·exact ((((h.b.below hb2).below hba).only hon (hns _ (.inl rfl))).set1 (by omega) _).put _ _ _ _
 ·exact ((((h.r.below hb2).below hba).only hon (hns _ (.inr rfl))).set1 (by omega) _).far (by omega) _ _ _ _
 ·exact Y4b (ownsRow_setCell_other ho (a := ⟨w2.heap.size, 2, none⟩) (fun e => by injection e with e; exact hsep.2.2 e) _) (fun k hk => by injection hk with hk; subst hk; exact hsep.1) _ _ _ _
 ·intro k hk
  injection hk with hk
  subst hk
  exact ⟨hsep.1, hsep.2.1⟩
 ·have h1 : Only (fun k => v0.ownBlock = some k) w ((w2.alloc A).alloc B) := (h.on.trans (Only.of_below hb2)).trans (Only.of_below hba)
  have h2 : Only (fun k => v0.ownBlock = some k) w w6 := ⟨hon.1.trans h1.1, hon.2.1.trans h1.2.1, hon.2.2.1.trans h1.2.2.1, Nat.le_trans h1.2.2.2.1 hon.2.2.2.1, fun k hk hs => by
   rw [← h1.2.2.2.2 k hk hs]
   exact hon.2.2.2.2 k (Nat.lt_of_lt_of_le hk h1.2.2.2.1) (fun e => by
    rcases h.fr k e with e' | e'
    ·exact hs e'
    ·omega)⟩
  exact Y4v (Y57 h2 (p := ⟨w2.heap.size, 2, none⟩) (by show w.heap.size ≤ w2.heap.size; omega) _) (Nat.le_of_eq hw) _ _ _ _
 ·intro k hk
  injection hk with hk
  subst hk
  rcases hat with e | e
  ·exact h.fr _ e
  ·right; show w.heap.size ≤ g'; omega
set_option maxHeartbeats 8000000 in
theorem Yim (L : List Bool) (a most : Nat) (q : Option Addr) (n cap : Nat) (out : List UInt8) (w : World) (ha : a ≤ L.length) (hl : L.length ≤ 24000) (hown : w.ownsRow 0 5 1 (.slice q n cap) n (cellsOf out)) (hn : out.length = n) (hm : n ≤ most) (hmost : most ≤ 20000) :
  Calls Tryz.prog 36 #[.agg #[.string (ds L), .int .i64 (a : Int), .slice q n cap, .int .i64 (most : Int)]] w (StP w (.slice q n cap) L most (Y25 L most a out)) := by
 obtain ⟨A, hA⟩ : ∃ A, (a + 7) / 8 * 8 = A := ⟨_, rfl⟩
 obtain ⟨X, hX⟩ : ∃ X, X = Y25 L most a out := ⟨_, rfl⟩
 rw [← hX]
 have a1 : ((a : Int) + 7) / 8 * 8 = (A : Int) := by omega
 have hsz := Y0w L
 have HOW := Lib.hid hown
 have HN := Lib.hid hn
 by_cases hA32 : A + 32 ≤ L.length
 ·have hst : X = (if Y2o true ((L.drop A).take 16) + Y2o true ((L.drop (A + 16)).take 16) = 65535 then Y2q L most (Y2o true ((L.drop A).take 16)) (A + 32) out else .error 3) := by
   rw [hX]; unfold Y25 Yt4; rw [hA, if_pos hA32, R.then_ok]
  have hn1 : Y1k L A 16 = .ok (Y2o true ((L.drop A).take 16), A + 16) := by unfold Y1k; rw [if_pos (by omega)]
  have hn2 : Y1k L (A + 16) 16 = .ok (Y2o true ((L.drop (A + 16)).take 16), A + 32) := by unfold Y1k; rw [if_pos (by omega)]
  obtain ⟨n1, e1⟩ : ∃ n1, Y2o true ((L.drop A).take 16) = n1 := ⟨_, rfl⟩
  obtain ⟨m1, e2⟩ : ∃ m1, Y2o true ((L.drop (A + 16)).take 16) = m1 := ⟨_, rfl⟩
  rw [e1, e2] at hst
  rw [e1] at hn1
  rw [e2] at hn2
  have b1 : n1 < 65536 := (Y1q hn1).1
  have b2 : m1 < 65536 := (Y1q hn2).1
  obtain ⟨A1, hA1⟩ : ∃ A1, A + 16 = A1 := ⟨_, rfl⟩
  obtain ⟨A2, hA2⟩ : ∃ A2, A + 32 = A2 := ⟨_, rfl⟩
  rw [hA1] at hn1 hn2
  rw [hA2] at hn2 hst
  have hAL : A ≤ L.length ∧ A1 ≤ L.length ∧ A2 ≤ L.length := ⟨by omega, by omega, by omega⟩
  have HAL := Lib.hid hAL
  have HST := Lib.hid hst
  have HN1 := Lib.hid (fun W => Y4k L A 16 most n1 A1 q n cap W (by omega) (by decide) hn1)
  have HN2 := Lib.hid (fun W => Y4k L A1 16 most m1 A2 q n cap W (by omega) (by decide) hn2)
  have q1 : decide ((L.length : Int) < (A : Int) + 32) = false := by simp; omega
  have HS0 := Lib.hid (Stt.start (most := most) hown hn hAL.1)
  clear hst hn1 hn2 e1 e2 hA1 hA2 hAL hX hA hown hn
  go_enter Tryz.func36, Tryz.ntmps36
  go_wp2_with fail
  refine (HN1.out _).mono ?_
  rintro e w2 ⟨rfl, hb2⟩
  have HS2 := Lib.hid (HS0.out.keep hb2)
  obtain ⟨g, hg⟩ : ∃ g, w.heap.size = g := ⟨_, rfl⟩
  rw [hg] at HS2 ⊢
  obtain ⟨p0, p1, p2, p3⟩ := HS2.out.b.cells
  obtain ⟨f0, f1, f2, f3⟩ := HS2.out.b.free
  clear hb2 hg HS0
  go_wp2_with fail
  refine (HN2.out _).mono ?_
  rintro e w4 ⟨rfl, hb4⟩
  have HS4 := Lib.hid (Stt.keep (HS2.out.put A1 HAL.out.2.1) hb4)
  clear p0 p1 p2 p3 f0 f1 f2 f3 hb4 HS2
  obtain ⟨p0, p1, p2, p3⟩ := HS4.out.b.cells
  obtain ⟨f0, f1, f2, f3⟩ := HS4.out.b.free
  obtain ⟨t0, t1, t2, t3⟩ := HS4.out.r.cells
  obtain ⟨u0, u1, u2, u3⟩ := HS4.out.r.free
  by_cases h65 : n1 + m1 = 65535
  ·have q2 : ((n1 : Int) + (m1 : Int) != 65535) = false := by simp; omega
   have HX : Hid (X = Y2q L most n1 A2 out) := Lib.hid (by rw [HST.out, if_pos h65])
   clear h65
   go_upto_region 8 with (fail)
   have HS5 := Lib.hid (HS4.out.put A2 HAL.out.2.2)
   obtain ⟨w5, hw5⟩ : ∃ w5, w5 = put4 w4 g (.string (ds L)) (.int .i64 (A2 : Int)) (.slice q n cap) (.int .i64 (most : Int)) := ⟨_, rfl⟩
   rw [← hw5] at HS5
   unfold put4 at hw5
   rw [← hw5]
   clear hw5 p0 p1 p2 p3 f0 f1 f2 f3 t0 t1 t2 t3 u0 u1 u2 u3 HS4 HN1 HN2 HST
   go_wp2_with fail
   go_loopw [8, 9, 10, 11] (fun i _ _ _ wr => ∃ (k a3 : Nat) (v3 : Value) (out3 : List UInt8), k ≤ n1 ∧ i = .int .i64 (k : Int) ∧ out3.length ≤ most ∧ Hid (Stt w (.slice q n cap) g L most a3 v3 out3 wr ∧ Y2q L most (n1 - k) a3 out3 = X)) (fun i _ _ _ _ => n1 - (intOf i).toNat)
   case atStart => exact ⟨0, A2, _, out, by omega, rfl, by rw [HN.out]; exact hm, Lib.hid ⟨HS5.out, HX.out.symm⟩⟩
   case round =>
    obtain ⟨k, a3, v3, out3, hk, rfl, hom, HI⟩ := hrel
    have HS := Lib.hid HI.out.1
    have HE := Lib.hid HI.out.2
    obtain ⟨q3, c3, rfl, hq3, hnc3, hcm3, _⟩ := Y39 HS.out.own rfl
    unfold maxLen at hcm3
    obtain ⟨p0, p1, p2, p3⟩ := HS.out.b.cells
    obtain ⟨f0, f1, f2, f3⟩ := HS.out.b.free
    obtain ⟨t0, t1, t2, t3⟩ := HS.out.r.cells
    obtain ⟨u0, u1, u2, u3⟩ := HS.out.r.free
    obtain ⟨len3, hl3⟩ : ∃ len3, out3.length = len3 := ⟨_, rfl⟩
    rw [hl3] at p2 hnc3 hom HS
    have HL3 := Lib.hid hl3
    clear hl3 HI hq3
    by_cases hkn : k < n1
    ·have qk : decide ((k : Int) < (n1 : Int)) = true := by simpa using hkn
     have qkn : decide (k < n1) = true := by simpa using hkn
     have hone : Y2q L most (n1 - k) a3 out3 = (Y1k L a3 8).then fun c a => if most ≤ out3.length then .error 8 else Y2q L most (n1 - (k + 1)) a (out3 ++ [UInt8.ofNat c]) := by
      rw [show n1 - k = (n1 - (k + 1)) + 1 from by omega, Ybz]
     rw [HE.out, HL3.out] at hone
     rcases hnum : Y1k L a3 8 with c | ⟨x, b⟩
     ·rw [hnum] at hone
      obtain ⟨rfl, _⟩ := Y56 hnum
      have HX2 : Hid (X = .error 2) := Lib.hid hone
      have HNB := Lib.hid (fun W => Y7z L a3 8 most 2 q3 len3 c3 W HS.out.le (by omega) (by decide) hnum)
      clear hone hnum hkn
      go_wp2_with fail
      refine (HNB.out _).mono ?_
      rintro e w6 ⟨rfl, hb6⟩
      have HS6 := Lib.hid (fun A : Obj => HS.out.keep (hb6.trans (((Below.refl _ w6).alloc (Nat.le_refl _) A).mono hb6.size)))
      clear p0 p1 p2 p3 f0 f1 f2 f3 t0 t1 t2 t3 u0 u1 u2 u3 hb6
      obtain ⟨p0, p1, p2, p3⟩ := (HS6.out (.cells #[.string (ds L), .int .i64 (a3 : Int), .slice q3 len3 c3, .int .i64 (most : Int)] 69)).b.cells
      obtain ⟨t0, t1, t2, t3⟩ := (HS6.out (.cells #[.string (ds L), .int .i64 (a3 : Int), .slice q3 len3 c3, .int .i64 (most : Int)] 69)).r.cells
      obtain ⟨u0, u1, u2, u3⟩ := (HS6.out (.cells #[.string (ds L), .int .i64 (a3 : Int), .slice q3 len3 c3, .int .i64 (most : Int)] 69)).r.free
      go_wp2_with fail
      obtain ⟨d1, d2, d3, d4⟩ := (HS6.out (.cells #[.string (ds L), .int .i64 (a3 : Int), .slice q3 len3 c3, .int .i64 (most : Int)] 69)).done HL3.out
      refine bodyPost_ret (Y0g rfl _ _ (g + 1) _ _ _ _ (0, 0) rfl d4) rfl ?_
      exact ⟨a3, q3, len3, c3, d1, d2, .inr ⟨2, HX2.out, by decide, by decide, rfl⟩⟩
     ·rw [hnum] at hone
      obtain ⟨x8, hba, hbL⟩ := Y1q hnum
      have HXX : Hid (X = if most ≤ len3 then .error 8 else Y2q L most (n1 - (k + 1)) b (out3 ++ [UInt8.ofNat x])) := Lib.hid hone
      have HNB := Lib.hid (fun W => Y4k L a3 8 most x b q3 len3 c3 W (by omega) (by decide) hnum)
      have hx8 : x < 256 := x8
      have x0 : (0 : Int) ≤ (x : Int) := by omega
      have x1 : (x : Int) < 256 := by omega
      have x2 : (x : Int) % 256 = (x : Int) := by omega
      have HBL := Lib.hid hbL
      clear hone hnum hba x8
      go_wp2_with fail
      refine (HNB.out _).mono ?_
      rintro e w6 ⟨rfl, hb6⟩
      have HB6 := Lib.hid hb6
      have HS6 := Lib.hid (fun A : Obj => HS.out.keep (hb6.trans (((Below.refl _ w6).alloc (Nat.le_refl _) A).mono hb6.size)))
      clear p0 p1 p2 p3 f0 f1 f2 f3 t0 t1 t2 t3 u0 u1 u2 u3 hb6 HNB
      by_cases hfull : most ≤ len3
      ·have qf : decide ((most : Int) ≤ (len3 : Int)) = true := by simpa using hfull
       have qfn : decide (most ≤ len3) = true := by simpa using hfull
       have HX2 : Hid (X = .error 8) := Lib.hid (by rw [HXX.out, if_pos hfull])
       obtain ⟨p0, p1, p2, p3⟩ := (HS6.out (.cells #[.string (ds L), .int .i64 (b : Int), .slice q3 len3 c3, .int .i64 (most : Int)] 69)).b.cells
       obtain ⟨t0, t1, t2, t3⟩ := (HS6.out (.cells #[.string (ds L), .int .i64 (b : Int), .slice q3 len3 c3, .int .i64 (most : Int)] 69)).r.cells
       obtain ⟨u0, u1, u2, u3⟩ := (HS6.out (.cells #[.string (ds L), .int .i64 (b : Int), .slice q3 len3 c3, .int .i64 (most : Int)] 69)).r.free
       clear hfull hkn
       go_wp2_with fail
       obtain ⟨d1, d2, d3, d4⟩ := (HS6.out (.cells #[.string (ds L), .int .i64 (b : Int), .slice q3 len3 c3, .int .i64 (most : Int)] 69)).done HL3.out
       refine bodyPost_ret (Y0g rfl _ _ (g + 1) _ _ _ _ (0, 0) rfl d4) rfl ?_
       exact ⟨a3, q3, len3, c3, d1, d2, .inr ⟨8, HX2.out, by decide, by decide, rfl⟩⟩
      ·have qf : decide ((most : Int) ≤ (len3 : Int)) = false := by simp; omega
       have qfn : decide (most ≤ len3) = false := by simp; omega
       have HX2 : Hid (Y2q L most (n1 - (k + 1)) b (out3 ++ [UInt8.ofNat x]) = X) := Lib.hid (by rw [HXX.out, if_neg hfull])
       have hlen3 : len3 + 1 ≤ most := by omega
       have hyz : ((UInt8.ofNat x).toNat : Int) = (x : Int) := by rw [UInt8.toNat_ofNat']; omega
       have HYZ := Lib.hid hyz
       have hl100 : len3 ≤ 100000 := by omega
       have HH1 : Hid ((w6.alloc (.cells #[.string (ds L), .int .i64 (b : Int), .slice q3 len3 c3, .int .i64 (most : Int)] 69)).heap.size = w6.heap.size + 1) := Lib.hid (by simp)
       have HL100 := Lib.hid hl100
       have HO3 := Lib.hid (HS6.out (.cells #[.string (ds L), .int .i64 (b : Int), .slice q3 len3 c3, .int .i64 (most : Int)] 69)).own
       have HTB : Hid (Bx (w6.alloc (.cells #[.string (ds L), .int .i64 (b : Int), .slice q3 len3 c3, .int .i64 (most : Int)] 69)) w6.heap.size (.string (ds L)) (.int .i64 (b : Int)) (.slice q3 len3 c3) (.int .i64 (most : Int))) := Lib.hid (heap_alloc_new _ _)
       have hgt : g < w6.heap.size := by
        have h1 := HS.out.lt2
        have h2 := HB6.out.size
        omega
       have hgt2 : ¬ (w6.heap.size = g) := by omega
       have hgt3 : ¬ (g = w6.heap.size) := by omega
       have HFT : Hid (∀ V, Only (fun k => (Value.slice q3 len3 c3).ownBlock = some k) ((w6.alloc (.cells #[.string (ds L), .int .i64 (b : Int), .slice q3 len3 c3, .int .i64 (most : Int)] 69)).alloc (.cells #[.int .u8 (x : Int)] 5)) V →
         Bx V w6.heap.size (.string (ds L)) (.int .i64 (b : Int)) (.slice q3 len3 c3) (.int .i64 (most : Int)) ∧ Bx V g (.string (ds L)) (.int .i64 (a3 : Int)) (.slice q3 len3 c3) (.int .i64 (most : Int))) := Lib.hid fun V hV => by
        refine ⟨(HTB.out.below ((Below.refl _ _).alloc (Nat.le_refl _) _)).only hV (fun e => ?_), ((HS6.out _).b.below ((Below.refl _ _).alloc (Nat.le_refl _) _)).only hV (fun e => ?_)⟩
        ·have h1 := (HS.out.own.lt _ e).2
         have h2 := HB6.out.size
         omega
        ·exact (HS.out.sep _ e).1 rfl
       clear hfull hyz hl100
       go_wp2_with (at_builtin; (refine Ynz (W := w6.alloc (.cells #[.string (ds L), .int .i64 (b : Int), .slice q3 len3 c3, .int .i64 (most : Int)] 69)) rfl _ _ rfl (.slice q3 len3 c3) out3 (UInt8.ofNat x) (x : Int) HYZ.out rfl HO3.out (w6.heap.size + 1) HH1.out rfl len3 HL3.out HL100.out ?_; intro g9 c9 w9 hc91 hc92 hown9 hon9 hat9; have HOWN9 := Lib.hid hown9; have HON9 := Lib.hid hon9; have HAT9 := Lib.hid hat9; obtain ⟨hbt, hbg⟩ := HFT.out _ hon9; obtain ⟨p0, p1, p2, p3⟩ := hbt.cells; obtain ⟨f0, f1, f2, f3⟩ := hbt.free; obtain ⟨t0, t1, t2, t3⟩ := hbg.cells; obtain ⟨u0, u1, u2, u3⟩ := hbg.free; clear hown9 hon9 hat9 hbt hbg))
       have hgr := HS.out.grow HB6.out HOWN9.out HON9.out HAT9.out HBL.out
       rw [HL3.out] at hgr
       refine ⟨⟨k + 1, b, _, out3 ++ [UInt8.ofNat x], by omega, by go_num, ?_, Lib.hid ⟨hgr, HX2.out⟩⟩, by simp [intOf]; omega⟩
       rw [List.length_append, HL3.out]
       exact hlen3
    ·have hkn2 : k = n1 := by omega
     have qk : decide ((k : Int) < (n1 : Int)) = false := by simp; omega
     have qkn : decide (k < n1) = false := by simp; omega
     have HX2 : Hid (X = .ok (out3, a3)) := Lib.hid (by rw [← HE.out, hkn2, Nat.sub_self]; rfl)
     clear hkn hkn2
     go_wp2_with fail
     obtain ⟨d1, d2, d3, d4⟩ := HS.out.done HL3.out
     refine bodyPost_ret (Y0g rfl _ _ (g + 1) _ _ _ _ (0, 0) rfl d4) rfl ?_
     exact ⟨a3, q3, len3, c3, d1, d2, .inl ⟨out3, HX2.out, HL3.out, hom, d3, rfl⟩⟩
  ·have q2 : ((n1 : Int) + (m1 : Int) != 65535) = true := by simp; omega
   have HX : Hid (X = .error 3) := Lib.hid (by rw [HST.out, if_neg h65])
   have HS5 := Lib.hid (HS4.out.put A2 HAL.out.2.2)
   clear h65
   go_wp2_with fail
   obtain ⟨d1, d2, d3, d4⟩ := HS5.out.done HN.out
   refine bodyPost_ret (Y0g rfl _ _ (g + 1) _ _ _ _ (0, 0) rfl d4) rfl ?_
   exact ⟨A2, q, n, cap, d1, d2, .inr ⟨3, HX.out, by decide, by decide, rfl⟩⟩
 ·have q1 : decide ((L.length : Int) < (A : Int) + 32) = true := by simp; omega
  have HX : Hid (X = .error 2) := Lib.hid (by rw [hX]; unfold Y25 Yt4; rw [hA, if_neg hA32]; rfl)
  clear hX hA
  go_enter Tryz.func36, Tryz.ntmps36
  go_wp2_with fail
  refine bodyPost_ret (Y0g rfl _ _ (w.heap.size + 1) _ _ _ _ (0, 0) rfl (heap_alloc2_new _ _ _)) rfl ?_
  exact ⟨A, q, n, cap, Only.of_below (((Below.refl _ w).alloc (Nat.le_refl _) _).alloc (by simp) _), fun k hk => .inl hk, .inr ⟨2, HX.out, by decide, by decide, rfl⟩⟩
end Go.Proofs.YtkkfkmoikcmhoaaGreat.Inf
namespace Go.Proofs.YtkkfkmoikcmhoaaGreat.Inf
open Go.RowKit Oct Bit Hf
set_option maxRecDepth 100000
def plc (w : World) (g : Nat) : Nat := match w.cell? ⟨g, 1, none⟩ with
 | some v => (intOf v).toNat
 | none => 0
theorem Yb3 {w : World} {g a : Nat} {c0 c2 c3 : Value} (h : Bx w g c0 (.int .i64 (a : Int)) c2 c3) : plc w g = a := by
 unfold plc
 rw [h.cells.2.1]
 simp [intOf]
theorem Stt.done2 {w wr : World} {v0 : Value} {g : Nat} {L : List Bool} {most a : Nat} {q : Option Addr} {n c : Nat} {out : List UInt8} (h : Stt w v0 g L most a (.slice q n c) out wr) (hn : out.length = n) (b : Nat) :
  Only (fun k => v0.ownBlock = some k) w (put4 wr (g + 1) (.string (ds L)) (.int .i64 (b : Int)) (.slice q n c) (.int .i64 (most : Int))) ∧
  (∀ k, (Value.slice q n c).ownBlock = some k → v0.ownBlock = some k ∨ w.heap.size ≤ k) ∧
  (put4 wr (g + 1) (.string (ds L)) (.int .i64 (b : Int)) (.slice q n c) (.int .i64 (most : Int))).ownsRow 0 5 1 (.slice q n c) n (cellsOf out) ∧
  Bx (put4 wr (g + 1) (.string (ds L)) (.int .i64 (b : Int)) (.slice q n c) (.int .i64 (most : Int))) (g + 1) (.string (ds L)) (.int .i64 (b : Int)) (.slice q n c) (.int .i64 (most : Int)) := by
 have ho := h.own
 rw [hn] at ho
 exact ⟨Y4v h.on (by have := h.hg; omega) _ _ _ _, h.fr, Y4b ho (fun k hk => (h.sep k hk).2) _ _ _ _, h.r.put _ _ _ _⟩
theorem Stt.grow1 {w wr w6 : World} {v0 v : Value} {g g' cap' : Nat} {L : List Bool} {most a : Nat} {out : List UInt8} {y : UInt8} {B : Obj} (h : Stt w v0 g L most a v out wr)
  (ho : w6.ownsRow 0 5 1 (.slice (some ⟨g', 0, none⟩) (out.length + 1) cap') (out ++ [y]).length (cellsOf (out ++ [y]))) (hon : Only (fun k => v.ownBlock = some k) (wr.alloc B) w6) (hat : v.ownBlock = some g' ∨ g' = wr.heap.size + 1) :
  Stt w v0 g L most a (.slice (some ⟨g', 0, none⟩) (out.length + 1) cap') (out ++ [y]) (w6.setCell ⟨g, 2, none⟩ (.slice (some ⟨g', 0, none⟩) (out.length + 1) cap')) := by
 have hz := h.lt2
 have hba : Below wr.heap.size wr (wr.alloc B) := (Below.refl _ wr).alloc (Nat.le_refl _) B
 have hw := h.hg
 have hlt : ∀ k, v.ownBlock = some k → k < wr.heap.size := fun k hk => (h.own.lt k hk).2
 have hsep : g' ≠ g ∧ g' ≠ g + 1 := by
  rcases hat with e | e
  ·exact h.sep _ e
  ·exact ⟨by omega, by omega⟩
 have hns : ∀ k, k = g ∨ k = g + 1 → ¬ (v.ownBlock = some k) := fun k hk e => by
  have h1 := h.sep _ e
  rcases hk with hk | hk
  ·exact h1.1 hk
  ·exact h1.2 hk
 refine ⟨?_, ?_, ?_, ?_, ?_, ?_, hw, h.le⟩
 ·have hb := (h.b.below hba).only hon (hns _ (.inl rfl))
  unfold Bx at hb ⊢
  simp [World.setCell, Array.getElem?_modify, hb]
 ·exact ((h.r.below hba).only hon (hns _ (.inr rfl))).set1 (by omega) _
 ·exact ownsRow_setCell_other ho (a := ⟨g, 2, none⟩) (fun e => by injection e with e; exact hsep.1 e) _
 ·intro k hk
  injection hk with hk
  subst hk
  exact hsep
 ·have h1 : Only (fun k => v0.ownBlock = some k) w (wr.alloc B) := h.on.trans (Only.of_below hba)
  have h2 : Only (fun k => v0.ownBlock = some k) w w6 := ⟨hon.1.trans h1.1, hon.2.1.trans h1.2.1, hon.2.2.1.trans h1.2.2.1, Nat.le_trans h1.2.2.2.1 hon.2.2.2.1, fun k hk hs => by
   rw [← h1.2.2.2.2 k hk hs]
   exact hon.2.2.2.2 k (Nat.lt_of_lt_of_le hk h1.2.2.2.1) (fun e => by
    rcases h.fr k e with e' | e'
    ·exact hs e'
    ·omega)⟩
  exact Y57 h2 (p := ⟨g, 2, none⟩) (Nat.le_of_eq hw) _
 ·intro k hk
  injection hk with hk
  subst hk
  rcases hat with e | e
  ·exact h.fr _ e
  ·right; show w.heap.size ≤ g'; have := h.on.2.2.2.1; omega
end Go.Proofs.YtkkfkmoikcmhoaaGreat.Inf
namespace Go.Proofs.YtkkfkmoikcmhoaaGreat.Inf
open Go.RowKit Oct Bit Hf
set_option maxRecDepth 100000
theorem Stt.keepO {w wr w2 : World} {v0 v : Value} {g : Nat} {L : List Bool} {most a : Nat} {out : List UInt8} (h : Stt w v0 g L most a v out wr) (ho : Only (fun _ => False) wr w2) : Stt w v0 g L most a v out w2 where
 b := h.b.only ho (fun e => e)
 r := h.r.only ho (fun e => e)
 own := Yfu h.own ho (fun _ _ e => e)
 sep := h.sep
 on := h.on.trans (ho.mono (fun k _ e => e.elim))
 fr := h.fr
 hg := h.hg
 le := h.le
theorem Stt.growD {w wr wd w6 : World} {v0 v : Value} {g g' cap' : Nat} {L : List Bool} {most a : Nat} {out : List UInt8} {y : UInt8} (h : Stt w v0 g L most a v out wr) (hod : Only (fun _ => False) wr wd) (hsz : wd.heap.size = wr.heap.size + 1)
  (ho : w6.ownsRow 0 5 1 (.slice (some ⟨g', 0, none⟩) (out.length + 1) cap') (out.length + 1) (cellsOf out ++ cellsOf [y])) (hgr : wd.grownBy w6 v.ownBlock) (hat : v.ownBlock = some g' ∨ g' = wr.heap.size + 1) :
  (w6.frozen? ⟨g, 2, none⟩ = false ∧ w6.cell? ⟨g, 2, none⟩ = some v) ∧ Stt w v0 g L most a (.slice (some ⟨g', 0, none⟩) (out.length + 1) cap') (out ++ [y]) (w6.setCell ⟨g, 2, none⟩ (.slice (some ⟨g', 0, none⟩) (out.length + 1) cap')) := by
 have hon : Only (fun k => v.ownBlock = some k) wd w6 := Y4u hgr
 have hz := h.lt2
 have hd := h.keepO hod
 have hw := h.hg
 have hlt : ∀ k, v.ownBlock = some k → k < wr.heap.size := fun k hk => (h.own.lt k hk).2
 have hsep : g' ≠ g ∧ g' ≠ g + 1 := by
  rcases hat with e | e
  ·exact h.sep _ e
  ·exact ⟨by omega, by omega⟩
 have hns : ∀ k, k = g ∨ k = g + 1 → ¬ (v.ownBlock = some k) := fun k hk e => by
  have h1 := h.sep _ e
  rcases hk with hk | hk
  ·exact h1.1 hk
  ·exact h1.2 hk
 have hb := hd.b.only hon (hns _ (.inl rfl))
 have hc := Y20 out [y]
 refine ⟨⟨hb.free.2.2.1, hb.cells.2.2.1⟩, ?_, ?_, ?_, ?_, ?_, ?_, hw, h.le⟩
 ·unfold Bx at hb ⊢
  simp [World.setCell, Array.getElem?_modify, hb]
 ·exact (hd.r.only hon (hns _ (.inr rfl))).set1 (by omega) _
 ·rw [← hc] at ho
  rw [List.length_append]
  exact ownsRow_setCell_other ho (a := ⟨g, 2, none⟩) (fun e => by injection e with e; exact hsep.1 e) _
 ·intro k hk
  injection hk with hk
  subst hk
  exact hsep
 ·have h1 : Only (fun k => v0.ownBlock = some k) w wd := hd.on
  have h2 : Only (fun k => v0.ownBlock = some k) w w6 := ⟨hon.1.trans h1.1, hon.2.1.trans h1.2.1, hon.2.2.1.trans h1.2.2.1, Nat.le_trans h1.2.2.2.1 hon.2.2.2.1, fun k hk hs => by
   rw [← h1.2.2.2.2 k hk hs]
   exact hon.2.2.2.2 k (Nat.lt_of_lt_of_le hk h1.2.2.2.1) (fun e => by
    rcases h.fr k e with e' | e'
    ·exact hs e'
    ·omega)⟩
  exact Y57 h2 (p := ⟨g, 2, none⟩) (Nat.le_of_eq hw) _
 ·intro k hk
  injection hk with hk
  subst hk
  rcases hat with e | e
  ·exact h.fr _ e
  ·right; show w.heap.size ≤ g'; have := h.on.2.2.2.1; omega
end Go.Proofs.YtkkfkmoikcmhoaaGreat.Inf
namespace Go.Proofs.YtkkfkmoikcmhoaaGreat.Inf
open Go.RowKit Oct Bit Hf
set_option maxRecDepth 100000
def LnP (w : World) (L : List Bool) (q : Option Addr) (len cap most n : Nat) (X : R (List Nat)) (e : Ending) (w' : World) : Prop :=
 Below w.heap.size w w' ∧ ((∃ (all : List Nat) (a : Nat) (p : Option Addr) (c : Nat), X = .ok (all, a) ∧ a ≤ L.length ∧ all.length = n ∧ (∀ m ∈ all, m ≤ 30) ∧ e = .returned (.tuple #[.agg #[.string (ds L), .int .i64 (a : Int), .slice q len cap, .int .i64 (most : Int)], .slice p n c, .int .i64 0]) ∧ VRow w' w'.heap.size p (ints (Y05 all)) ∧ (p = none → c = 0) ∧ n ≤ c ∧ ∀ ad, p = some ad → w.heap.size ≤ ad.block) ∨
  ∃ c b : Nat, X = .error c ∧ c ≠ 0 ∧ c ≤ 8 ∧ e = .returned (.tuple #[.agg #[.string (ds L), .int .i64 (b : Int), .slice q len cap, .int .i64 (most : Int)], .slice none 0 0, .int .i64 (c : Int)]))
theorem Bx.belowC {V V' : World} {n C : Nat} {c0 c1 c2 c3 : Value} (h : Bx V n c0 c1 c2 c3) (hb : Below C V V') (hn : n < C) : Bx V' n c0 c1 c2 c3 := by
 unfold Bx at h ⊢
 rw [hb.block n hn]; exact h
structure LnS (w : World) (g : Nat) (L : List Bool) (V : Value) (most b : Nat) (v : Value) (all : List Nat) (wr : World) : Prop where
 bx : Bx wr g (.string (ds L)) (.int .i64 (b : Int)) V (.int .i64 (most : Int))
 rs : Bx wr (g + 1) (.string ByteArray.empty) (.int .i64 0) (.slice none 0 0) (.int .i64 0)
 own : IOwn wr (g + 2) v (Y05 all)
 bl : Below g w wr
 hg : w.heap.size = g
 m30 : ∀ m ∈ all, m ≤ 30
 le : b ≤ L.length
theorem LnS.start {w : World} {L : List Bool} {V : Value} {most a : Nat} (ha : a ≤ L.length) :
  LnS w w.heap.size L V most a (.slice none 0 0) [] ((w.alloc (.cells #[.string (ds L), .int .i64 (a : Int), V, .int .i64 (most : Int)] 69)).alloc (.cells #[.string ByteArray.empty, .int .i64 0, .slice none 0 0, .int .i64 0] 69)) where
 bx := heap_alloc2_old _ _ _
 rs := heap_alloc2_new _ _ _
 own := World.ownsRow_nil _ _ 3 1
 bl := ((Below.refl _ w).alloc (Nat.le_refl _) _).alloc (by simp) _
 hg := rfl
 m30 := by simp
 le := ha
section
variable {w wr w2 : World} {g : Nat} {L : List Bool} {V v : Value} {most b : Nat} {all : List Nat}
theorem LnS.lt2 (h : LnS w g L V most b v all wr) : g + 1 < wr.heap.size := h.rs.lt
theorem LnS.sep (h : LnS w g L V most b v all wr) : ∀ k, v.ownBlock = some k → g + 2 ≤ k ∧ k < wr.heap.size := fun k hk => h.own.lt k hk
theorem LnS.keep (h : LnS w g L V most b v all wr) (hb : Below wr.heap.size wr w2) : LnS w g L V most b v all w2 where
 bx := h.bx.below hb
 rs := h.rs.below hb
 own := Yfu h.own (Only.of_below (S := fun _ => False) hb) (fun _ _ e => e)
 bl := h.bl.trans (hb.mono (by have := h.lt2; omega))
 hg := h.hg
 m30 := h.m30
 le := h.le
theorem Yfv {base n : Nat} {cs : List Value} (h : wr.ownsRow base 3 1 v n cs) (hs : ∀ k, v.ownBlock = some k → k ≠ g) (u0 u1 u2 u3 : Value) : (put4 wr g u0 u1 u2 u3).ownsRow base 3 1 v n cs :=
 ownsRow_setCell_other (ownsRow_setCell_other (ownsRow_setCell_other (ownsRow_setCell_other h (a := ⟨g, 0, none⟩) (fun e => hs _ e rfl) u0) (a := ⟨g, 1, none⟩) (fun e => hs _ e rfl) u1) (a := ⟨g, 2, none⟩) (fun e => hs _ e rfl) u2) (a := ⟨g, 3, none⟩) (fun e => hs _ e rfl) u3
theorem LnS.put (h : LnS w g L V most b v all wr) (b2 : Nat) (hb : b2 ≤ L.length) : LnS w g L V most b2 v all (put4 wr g (.string (ds L)) (.int .i64 (b2 : Int)) V (.int .i64 (most : Int))) where
 bx := h.bx.put _ _ _ _
 rs := h.rs.far (by omega) _ _ _ _
 own := Yfv h.own (fun k hk => by have := (h.sep k hk).1; omega) _ _ _ _
 bl := Y1w h.bl (Nat.le_refl _) _ _ _ _
 hg := h.hg
 m30 := h.m30
 le := hb
theorem LnS.done (h : LnS w g L V most b v all wr) (b2 : Nat) :
  Below w.heap.size w (put4 wr (g + 1) (.string (ds L)) (.int .i64 (b2 : Int)) V (.int .i64 (most : Int))) ∧
  Bx (put4 wr (g + 1) (.string (ds L)) (.int .i64 (b2 : Int)) V (.int .i64 (most : Int))) (g + 1) (.string (ds L)) (.int .i64 (b2 : Int)) V (.int .i64 (most : Int)) :=
 ⟨Y1w (by rw [h.hg]; exact h.bl) (by rw [h.hg]; omega) _ _ _ _, h.rs.put _ _ _ _⟩
theorem LnS.fin (h : LnS w g L V most b v all wr) (u0 u1 u2 u3 : Value) : ∃ q c, v = .slice q all.length c ∧ (q = none → c = 0) ∧ all.length ≤ c ∧ VRow (put4 wr (g + 1) u0 u1 u2 u3) (put4 wr (g + 1) u0 u1 u2 u3).heap.size q (ints (Y05 all)) ∧ ∀ ad, q = some ad → w.heap.size ≤ ad.block := by
 have ho := Yfv (g := g + 1) h.own (fun k hk => by have := (h.sep k hk).1; omega) u0 u1 u2 u3
 obtain ⟨q, c, e, h1, h2, _, h3, h4⟩ := Y18 ho (Y06 _)
 rw [Y01] at e h2
 exact ⟨q, c, e, h1, h2, h3, fun ad ha => by have := h4 ad ha; have := h.hg; omega⟩
theorem LnS.more (h : LnS w g L V most b v all wr) {v9 : Value} {x : Nat} (ho : w2.ownsRow (g + 2) 3 1 v9 (all.length + 1) (ints (Y05 (all ++ [x])))) (hb : Below (g + 2) wr w2) (hx : x ≤ 30) : LnS w g L V most b v9 (all ++ [x]) w2 where
 bx := h.bx.belowC hb (by omega)
 rs := h.rs.belowC hb (by omega)
 own := by
  unfold IOwn
  rw [Y01, List.length_append]
  exact ho
 bl := h.bl.trans (hb.mono (by omega))
 hg := h.hg
 m30 := fun m hm => by
  rcases List.mem_append.1 hm with h1 | h1
  ·exact h.m30 m h1
  ·rw [List.mem_singleton.1 h1]; exact hx
 le := h.le
end
def LnI (w : World) (g : Nat) (L : List Bool) (V : Value) (most n : Nat) (W : List (List Bool)) (X : R (List Nat)) (v : Value) (wr : World) : Prop :=
 ∃ b all, LnS w g L V most b v all wr ∧ ((all.length ≤ n ∧ Y66 W n L b all = X) ∨ (n < all.length ∧ X = .error 3)) ∧ all.length ≤ n + 200 ∧ Yt1 v = all.length
theorem Ypt (all : List Nat) (z : Nat) (h : all.length = z + 1) (h2 : z < (Y05 all).length) : (Y05 all)[z] = (all.getLastD 0 : Int) := by
 have h3 : z < all.length := by omega
 have e1 : all.getLastD 0 = all[z] := by
  rw [List.getLastD_eq_getLast?, List.getLast?_eq_getElem?, h, Nat.add_sub_cancel, List.getElem?_eq_getElem h3]
  rfl
 rw [e1]
 simp [Y05]
theorem LnS.last {w wr : World} {g : Nat} {L : List Bool} {V : Value} {most b al c8 z : Nat} {q8 : Option Addr} {all : List Nat} (h : LnS w g L V most b (.slice q8 al c8) all wr) (hal : all.length = al) (hz : al = z + 1) :
  ∃ bq oq, q8 = some ⟨bq, oq, none⟩ ∧ wr.cell? ⟨bq, oq + z, none⟩ = some (.int .i64 ((all.getLastD 0 : Nat) : Int)) := by
 obtain ⟨q7, c7, e7, _, _, _, hr7, _⟩ := Y18 h.own (Y06 _)
 injection e7 with e71 e72 e73
 subst e71
 obtain ⟨bq, oq, rfl, hbq⟩ := hr7.addr (by rw [Y06, Y01, hal]; omega)
 have h2 : z < (Y05 all).length := by rw [Y01, hal]; omega
 have hc := hr7.int z h2
 rw [Ypt all z (by omega) h2] at hc
 exact ⟨bq, oq, rfl, hc⟩
theorem Yzq {z al n : Nat} (h : al = z + 1) (h1 : al ≤ n + 200) (h2 : n ≤ 1000) : IntKind.i64.wrap ((al : Int) - 1) = (z : Int) ∧ (z : Int) < (al : Int) ∧ (0 : Int) ≤ (z : Int) :=
 ⟨by rw [show (al : Int) - 1 = (z : Int) from by omega]; exact IntWalk.i64_in _ (by omega), by omega, by omega⟩
end Go.Proofs.YtkkfkmoikcmhoaaGreat.Inf
