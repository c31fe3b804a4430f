
/- strings.Repeat of one nought, a few times; the end of a line as it is written. -/
import Derived.Test.YtmbfgejephgojaaGreatDoorFyI
import Derived.Test.YtmbfgejephgojaaGreatDoorMhP
import Derived.Laws.Externs
import Derived.Test.YtmbfgejephgojaaGreatDoorMiT
import Derived.Test.YtmbfgejephgojaaGreatDoorGtN
import Derived.Test.YtmbfgejephgojaaGreatDoorMiW
namespace Go.Proofs.YtmbfgejephgojaaGreatDoor.Gt
open Go.RowKit Go.Proofs.YtmbfgejephgojaaGreatDoor.Oct Go.Proofs.YtmbfgejephgojaaGreatDoor.Bit
open Go.Proofs.YtmbfgejephgojaaGreatDoor.Fx (WrP eol)
open Go.Proofs.YtmbfgejephgojaaGreatDoor.Mh (endF)
open Go.Proofs.YtmbfgejephgojaaGreatDoor.Rn (changes)
set_option linter.unusedVariables false
set_option linter.unusedSimpArgs false
set_option maxRecDepth 100000

theorem and_maskF : ∀ c : Fin 8, bits .and .u64 ((c.val : Nat) : Int) 4294967295 = ((c.val : Nat) : Int) := by decide +kernel
theorem and_mask (c : Nat) (hc : c ≤ 7) : bits .and .u64 (c : Int) 4294967295 = (c : Int) := and_maskF ⟨c, by omega⟩
theorem mul64_one (c : Nat) (w : World) (hc : c ≤ 7) :
    Calls Tryz.prog 100 #[.int .u64 1, .int .u64 (c : Int)] w fun e w' => e = .returned (.tuple #[.int .u64 0, .int .u64 (c : Int)]) ∧ w = w' := by
  have h1 : bits .and .u64 1 4294967295 = 1 := by decide
  have h0 : bits .and .u64 0 4294967295 = 0 := by decide
  have h2 := and_mask c hc
  have h3 : (c : Int) / 4294967296 = 0 := by omega
  go_enter Tryz.func100, Tryz.ntmps100
  go_wp2
  go_ret2
  exact ⟨rfl, rfl⟩
theorem mul_one_any (c : Nat) (w : World) (hc : c ≤ 7) :
    Calls Tryz.prog 83 #[.int .u64 1, .int .u64 (c : Int)] w fun e w' => e = .returned (.tuple #[.int .u64 0, .int .u64 (c : Int)]) ∧ w = w' := by
  go_enter Tryz.func83, Tryz.ntmps83
  go_wp2_with fail
  refine (mul64_one _ _ hc).mono ?_
  rintro e w' ⟨rfl, rfl⟩
  go_wp2_with fail
  go_ret2
  exact ⟨rfl, rfl⟩
theorem spre_one (T U : ByteArray) (b : Bool) (w : World) (hu : U.size = 1) (ht : 1 ≤ T.size) (ht2 : T.size ≤ 1000) (hb : ((T.extract 0 1).toList == U.toList) = b) : Calls Tryz.prog 101 #[.string T, .string U] w fun e w' => e = .returned (.bool b) ∧ w = w' := by
  have hd : decide ((U.size : Int) ≤ (T.size : Int)) = true := by simp; omega
  have hd2 : U.size ≤ T.size := by omega
  subst hb
  go_enter Tryz.func101, Tryz.ntmps101
  go_wp2_with fail
  go_ret
  exact ⟨rfl, rfl⟩
theorem pre_one (T U : ByteArray) (b : Bool) (w : World) (hu : U.size = 1) (ht : 1 ≤ T.size) (ht2 : T.size ≤ 1000) (hb : ((T.extract 0 1).toList == U.toList) = b) : Calls Tryz.prog 84 #[.string T, .string U] w fun e w' => e = .returned (.bool b) ∧ w = w' := by
  have HC := Lib.hid (spre_one T U b w hu ht ht2 hb)
  clear hu ht ht2 hb
  go_enter Tryz.func84, Tryz.ntmps84
  go_wp2_with fail
  refine HC.out.mono ?_
  rintro e w' ⟨rfl, rfl⟩
  go_wp2_with fail
  go_ret
  exact ⟨rfl, rfl⟩
def nulls : ByteArray := { data := #[48, 48, 48, 48, 48, 48, 48, 48, 48, 48, 48, 48, 48, 48, 48, 48, 48, 48, 48, 48, 48, 48, 48, 48, 48, 48, 48, 48, 48, 48, 48, 48, 48, 48, 48, 48, 48, 48, 48, 48, 48, 48, 48, 48, 48, 48, 48, 48, 48, 48, 48, 48, 48, 48, 48, 48, 48, 48, 48, 48, 48, 48, 48, 48] }
theorem nulls_cutF : ∀ c : Fin 8, nulls.extract 0 c.val = ds (List.replicate c.val false) := by decide +kernel
set_option maxHeartbeats 2000000 in
theorem repeat_any (c : Nat) (w : World) (hc : c ≤ 7) : Calls Tryz.prog 63 #[.string { data := #[48] }, .int .i64 (c : Int)] w fun e w' => e = .returned (.string (ds (List.replicate c false))) ∧ w = w' := by
  by_cases h0 : c = 0
  · subst h0
    go_enter Tryz.func63, Tryz.ntmps63
    go_wp2_with fail
    go_ret
    exact ⟨rfl, rfl⟩
  by_cases h1 : c = 1
  · subst h1
    go_enter Tryz.func63, Tryz.ntmps63
    go_wp2_with fail
    go_ret
    exact ⟨rfl, rfl⟩
  have hd0 : ((c : Int) == 0) = false := by simp; omega
  have hd1 : ((c : Int) == 1) = false := by simp; omega
  have hcut : ({ data := #[48, 48, 48, 48, 48, 48, 48, 48, 48, 48, 48, 48, 48, 48, 48, 48, 48, 48, 48, 48, 48, 48, 48, 48, 48, 48, 48, 48, 48, 48, 48, 48, 48, 48, 48, 48, 48, 48, 48, 48, 48, 48, 48, 48, 48, 48, 48, 48, 48, 48, 48, 48, 48, 48, 48, 48, 48, 48, 48, 48, 48, 48, 48, 48] } : ByteArray).extract 0 c = ds (List.replicate c false) := nulls_cutF ⟨c, by omega⟩
  have HM := Lib.hid (mul_one_any c w hc)
  generalize ds (List.replicate c false) = R at *
  go_enter Tryz.func63, Tryz.ntmps63
  go_wp2_with fail
  refine HM.out.mono ?_
  rintro e w' ⟨rfl, rfl⟩
  go_wp2_with fail
  refine (pre_one _ _ false w (by kernel_rfl) (by decide +kernel) (by decide +kernel) (by decide +kernel)).mono ?_
  rintro e w' ⟨rfl, rfl⟩
  go_wp2_with fail
  refine (pre_one _ _ false w (by kernel_rfl) (by decide +kernel) (by decide +kernel) (by decide +kernel)).mono ?_
  rintro e w' ⟨rfl, rfl⟩
  go_wp2_with fail
  refine (pre_one _ _ true w (by kernel_rfl) (by decide +kernel) (by decide +kernel) (by decide +kernel)).mono ?_
  rintro e w' ⟨rfl, rfl⟩
  go_wp2_with fail
  go_ret
  exact ⟨rfl, rfl⟩
theorem fill_any (n : Nat) (w : World) (hn : n ≤ 2000000) : Calls Tryz.prog 64 #[.int .i64 (n : Int)] w fun e w' => e = .returned (.int .i64 (((8 - (n + 12) % 8) % 8 : Nat) : Int)) ∧ w = w' := by
  have h1 : ((n : Int) + 12).tmod 8 = (((n + 12) % 8 : Nat) : Int) := by rw [Int.tmod_eq_emod_of_nonneg (by omega)]; omega
  obtain ⟨m, hm⟩ : ∃ m, m = (n + 12) % 8 := ⟨_, rfl⟩
  have hm8 : m < 8 := by omega
  have h2 : ((8 : Int) - (m : Int)).tmod 8 = (((8 - m) % 8 : Nat) : Int) := by rw [Int.tmod_eq_emod_of_nonneg (by omega)]; omega
  rw [← hm] at h1 ⊢
  clear hm
  go_enter Tryz.func64, Tryz.ntmps64
  go_wp2_with fail
  go_ret
  exact ⟨rfl, rfl⟩
theorem right_any (two al ends : Bool) (every : Int) (w : World) : Calls Tryz.prog 4 #[.agg #[.bool two, .int .i64 every, .bool al, .bool ends]] w fun e w' => e = .returned (.bool (decide (1 ≤ every) || !two)) ∧ Below w.heap.size w w' := by
  by_cases h : 1 ≤ every
  · have hd : decide (1 ≤ every) = true := by simpa using h
    clear h
    rw [hd]
    go_enter Tryz.func4, Tryz.ntmps4
    go_wp2_with fail
    go_ret
    exact ⟨rfl, (Below.refl _ w).alloc (Nat.le_refl _) _⟩
  · have hd : decide (1 ≤ every) = false := by simpa using h
    clear h
    rw [hd]
    cases two <;>
    (go_enter Tryz.func4, Tryz.ntmps4
     go_wp2_with fail
     go_ret
     exact ⟨rfl, (Below.refl _ w).alloc (Nat.le_refl _) _⟩)
theorem gwidth_any (n : Int) (w : World) : Calls Tryz.prog 20 #[.int .i64 n] w fun e w' => e = .returned (.bool (decide (1 ≤ n ∧ n ≤ 32768))) ∧ w = w' := by
  by_cases h1 : 1 ≤ n
  · have hd : decide (1 ≤ n) = true := by simpa using h1
    have he : decide (1 ≤ n ∧ n ≤ 32768) = decide (n ≤ 32768) := by simp [h1]
    rw [he]
    go_enter Tryz.func20, Tryz.ntmps20
    go_wp2_with fail
    go_ret
    exact ⟨rfl, rfl⟩
  · have hd : decide (1 ≤ n) = false := by simpa using h1
    have he : decide (1 ≤ n ∧ n ≤ 32768) = false := by simp [h1]
    rw [he]
    go_enter Tryz.func20, Tryz.ntmps20
    go_wp2_with fail
    go_ret
    exact ⟨rfl, rfl⟩
theorem chg_white : ∀ (n : Nat) (k : Nat), Rn.chg false k (List.replicate n false) = []
  | 0, k => rfl
  | n + 1, k => by
    rw [List.replicate_succ, Rn.chg]
    first | exact chg_white n (k + 1) | (rw [if_pos rfl]; exact chg_white n (k + 1)) | simp [chg_white n (k + 1)]
theorem changes_white (n : Nat) : changes (List.replicate n false) = [] := chg_white n 0
end Go.Proofs.YtmbfgejephgojaaGreatDoor.Gt
/- A page while it is written: its box; the end of a line. -/
namespace Go.Proofs.YtmbfgejephgojaaGreatDoor.Gt
open Go.RowKit Go.Proofs.YtmbfgejephgojaaGreatDoor.Oct Go.Proofs.YtmbfgejephgojaaGreatDoor.Bit
open Go.Proofs.YtmbfgejephgojaaGreatDoor.Fx (WrP eol CW)
open Go.Proofs.YtmbfgejephgojaaGreatDoor.Mh (endF)
set_option linter.unusedVariables false
set_option linter.unusedSimpArgs false
set_option maxRecDepth 100000

/-- a page that is being written -/
def PgB (w : World) (gp gw c : Nat) (wd every : Int) (two al ends : Bool) : Prop :=
  w.heap[gp]? = some (.cells #[.pointer (some ⟨gw, 0, none⟩), .pointer (some ⟨c, 0, none⟩), .int .i64 wd, .bool two, .int .i64 every, .bool al, .bool ends] 49 (0, 0))
section
variable {w w' : World} {gp gw c : Nat} {wd every : Int} {two al ends : Bool}
theorem PgB.c0 (h : PgB w gp gw c wd every two al ends) : w.cell? ⟨gp, 0, none⟩ = some (.pointer (some ⟨gw, 0, none⟩)) := by rw [cell_of_row _ gp 0 _ _ _ h]; rfl
theorem PgB.c1 (h : PgB w gp gw c wd every two al ends) : w.cell? ⟨gp, 1, none⟩ = some (.pointer (some ⟨c, 0, none⟩)) := by rw [cell_of_row _ gp 1 _ _ _ h]; rfl
theorem PgB.c2 (h : PgB w gp gw c wd every two al ends) : w.cell? ⟨gp, 2, none⟩ = some (.int .i64 wd) := by rw [cell_of_row _ gp 2 _ _ _ h]; rfl
theorem PgB.c3 (h : PgB w gp gw c wd every two al ends) : w.cell? ⟨gp, 3, none⟩ = some (.bool two) := by rw [cell_of_row _ gp 3 _ _ _ h]; rfl
theorem PgB.c5 (h : PgB w gp gw c wd every two al ends) : w.cell? ⟨gp, 5, none⟩ = some (.bool al) := by rw [cell_of_row _ gp 5 _ _ _ h]; rfl
theorem PgB.lt (h : PgB w gp gw c wd every two al ends) : gp < w.heap.size := by
  rcases Nat.lt_or_ge gp w.heap.size with hlt | hge
  · exact hlt
  · rw [PgB, Array.getElem?_eq_none hge] at h; cases h
theorem PgB.only {S : Nat → Prop} (h : PgB w gp gw c wd every two al ends) (ho : Only S w w') (hS : ¬ S gp) : PgB w' gp gw c wd every two al ends := by
  have := ho.2.2.2.2 gp h.lt hS
  unfold PgB at *
  rw [this]
  exact h
end
/-- what the end of a line adds -/
def tailF (n : Nat) (two aligned single : Bool) : List Bool := List.replicate (if aligned then (8 - (n + 12) % 8) % 8 else 0) false ++ eol ++ (if two then [single] else [])
theorem endF_tail (l : List Bool) (two aligned single : Bool) : endF l two aligned single = l ++ tailF l.length two aligned single := by
  unfold endF tailF
  simp only [List.append_assoc]
theorem tailF_len (n : Nat) (two aligned single : Bool) : (tailF n two aligned single).length ≤ 20 := by
  unfold tailF
  rw [List.length_append, List.length_append, List.length_replicate, show eol.length = 12 from rfl]
  have h1 : (if two = true then [single] else []).length ≤ 1 := by cases two <;> simp
  have h2 : (if aligned = true then (8 - (n + 12) % 8) % 8 else 0) ≤ 7 := by split <;> omega
  omega
theorem eol_text : ({ data := #[48, 48, 48, 48, 48, 48, 48, 48, 48, 48, 48, 49] } : ByteArray) = ds eol := by decide +kernel
theorem one_text : ({ data := #[49] } : ByteArray) = ds [true] := by decide +kernel
theorem nought_text : ({ data := #[48] } : ByteArray) = ds [false] := by decide +kernel
set_option maxHeartbeats 4000000 in
theorem endLine_any (w : World) (gp gw c : Nat) (wd every : Int) (two a1 ends al single : Bool) (v : Value) (l : List Bool) (hP : PgB w gp gw c wd every two a1 ends) (hW : Ws w gw v l false) (hl : l.length ≤ 1900000) :
    Calls Tryz.prog 43 #[.pointer (some ⟨gp, 0, none⟩), .bool al, .bool single] w (WrP w gw v l (tailF l.length two al single) false) := by
  have c0 := hP.c0
  have c3 := hP.c3
  have hlen := len_any w gw v l false hW
  have hz1 : ({ data := #[48, 48, 48, 48, 48, 48, 48, 48, 48, 48, 48, 49] } : ByteArray).size = 12 := rfl
  have hz2 : ({ data := #[49] } : ByteArray).size = 1 := rfl
  have hz3 : ({ data := #[48] } : ByteArray).size = 1 := rfl
  cases al
  · have key : ∀ m, m.length ≤ 1 → Calls Tryz.prog 25 #[.pointer (some ⟨gw, 0, none⟩), .string (ds eol ++ ds m)] w (WordP w gw v l (eol ++ m) false) := fun m hm => by
      rw [ds_append]
      exact word_any w gw v l (eol ++ m) false (by rw [List.length_append, show eol.length = 12 from rfl]; omega) hW
    have key0 : Calls Tryz.prog 25 #[.pointer (some ⟨gw, 0, none⟩), .string (ds eol)] w (WordP w gw v l eol false) := word_any w gw v l eol false (by rw [show eol.length = 12 from rfl]; omega) hW
    rw [← eol_text] at key key0
    have k1 := key [true] (by simp)
    have k2 := key [false] (by simp)
    rw [← one_text] at k1
    rw [← nought_text] at k2
    have K0 := Lib.hid key0
    have K1 := Lib.hid k1
    have K2 := Lib.hid k2
    clear key key0 k1 k2 hW hP hlen hl
    cases two
    · go_enter Tryz.func43, Tryz.ntmps43
      go_wp2_with fail
      refine K0.out.mono ?_
      rintro e w1 ⟨rfl, hT⟩
      go_wp2_with fail
      go_ret
      refine ⟨rfl, ?_⟩
      rw [show tailF l.length false false single = eol from by cases single <;> rfl]
      exact hT
    · cases single
      · go_enter Tryz.func43, Tryz.ntmps43
        go_wp2_with fail
        refine K2.out.mono ?_
        rintro e w1 ⟨rfl, hT⟩
        go_wp2_with fail
        go_ret
        exact ⟨rfl, hT⟩
      · go_enter Tryz.func43, Tryz.ntmps43
        go_wp2_with fail
        refine K1.out.mono ?_
        rintro e w1 ⟨rfl, hT⟩
        go_wp2_with fail
        go_ret
        exact ⟨rfl, hT⟩
  · obtain ⟨k, hk⟩ : ∃ k, k = (8 - (l.length + 12) % 8) % 8 := ⟨_, rfl⟩
    have hk7 : k ≤ 7 := by omega
    have HF := Lib.hid (fill_any l.length w (by omega))
    rw [← hk] at HF
    have HR := Lib.hid (repeat_any k w hk7)
    have HL := Lib.hid hlen
    have hzr := ds_size (List.replicate k false)
    rw [List.length_replicate] at hzr
    have hza := ByteArray.size_append (a := ds (List.replicate k false)) (b := { data := #[48, 48, 48, 48, 48, 48, 48, 48, 48, 48, 48, 49] })
    have key : ∀ m, m.length ≤ 1 → Calls Tryz.prog 25 #[.pointer (some ⟨gw, 0, none⟩), .string (ds (List.replicate k false) ++ ds eol ++ ds m)] w (WordP w gw v l (List.replicate k false ++ eol ++ m) false) := fun m hm => by
      rw [ds_append, ds_append]
      exact word_any w gw v l _ false (by rw [List.length_append, List.length_append, List.length_replicate, show eol.length = 12 from rfl]; omega) hW
    have key0 : Calls Tryz.prog 25 #[.pointer (some ⟨gw, 0, none⟩), .string (ds (List.replicate k false) ++ ds eol)] w (WordP w gw v l (List.replicate k false ++ eol) false) := by
      rw [ds_append]
      exact word_any w gw v l _ false (by rw [List.length_append, List.length_replicate, show eol.length = 12 from rfl]; omega) hW
    rw [← eol_text] at key key0
    have k1 := key [true] (by simp)
    have k2 := key [false] (by simp)
    rw [← one_text] at k1
    rw [← nought_text] at k2
    have K0 := Lib.hid key0
    have K1 := Lib.hid k1
    have K2 := Lib.hid k2
    have HT : Hid (∀ single, tailF l.length two true single = List.replicate k false ++ eol ++ (if two then [single] else [])) := Lib.hid (fun single => by rw [hk]; rfl)
    generalize ds (List.replicate k false) = R at *
    generalize hLn : l.length = n at *
    clear key key0 k1 k2 hW hP hlen hl hk
    cases two
    · go_enter Tryz.func43, Tryz.ntmps43
      go_wp2_with fail
      refine HL.out.mono ?_
      rintro e w1 ⟨rfl, rfl⟩
      go_wp2_with fail
      refine HF.out.mono ?_
      rintro e w1 ⟨rfl, rfl⟩
      go_wp2_with fail
      refine HR.out.mono ?_
      rintro e w1 ⟨rfl, rfl⟩
      go_wp2_with fail
      refine K0.out.mono ?_
      rintro e w1 ⟨rfl, hT⟩
      go_wp2_with fail
      go_ret
      refine ⟨rfl, ?_⟩
      rw [HT.out single]
      simpa using hT
    · cases single
      · go_enter Tryz.func43, Tryz.ntmps43
        go_wp2_with fail
        refine HL.out.mono ?_
        rintro e w1 ⟨rfl, rfl⟩
        go_wp2_with fail
        refine HF.out.mono ?_
        rintro e w1 ⟨rfl, rfl⟩
        go_wp2_with fail
        refine HR.out.mono ?_
        rintro e w1 ⟨rfl, rfl⟩
        go_wp2_with fail
        refine K2.out.mono ?_
        rintro e w1 ⟨rfl, hT⟩
        go_wp2_with fail
        go_ret
        exact ⟨rfl, by rw [HT.out false]; simpa using hT⟩
      · go_enter Tryz.func43, Tryz.ntmps43
        go_wp2_with fail
        refine HL.out.mono ?_
        rintro e w1 ⟨rfl, rfl⟩
        go_wp2_with fail
        refine HF.out.mono ?_
        rintro e w1 ⟨rfl, rfl⟩
        go_wp2_with fail
        refine HR.out.mono ?_
        rintro e w1 ⟨rfl, rfl⟩
        go_wp2_with fail
        refine K1.out.mono ?_
        rintro e w1 ⟨rfl, hT⟩
        go_wp2_with fail
        go_ret
        exact ⟨rfl, by rw [HT.out true]; simpa using hT⟩
end Go.Proofs.YtmbfgejephgojaaGreatDoor.Gt
/- A line of a page is written. -/
namespace Go.Proofs.YtmbfgejephgojaaGreatDoor.Gt
open Go.RowKit Go.Proofs.YtmbfgejephgojaaGreatDoor.Oct Go.Proofs.YtmbfgejephgojaaGreatDoor.Bit
open Go.Proofs.YtmbfgejephgojaaGreatDoor.Fx (WrP eol CW Cd OutW)
open Go.Proofs.YtmbfgejephgojaaGreatDoor.Mh (endF rowC againstA Apt writeRow_any writeAgainst_any rowF)
open Go.Proofs.YtmbfgejephgojaaGreatDoor.Rn (changes zl zl_length Valid)
open Go.Proofs.YtmbfgejephgojaaGreatDoor.Lp (VRow ints ints_length)
set_option linter.unusedVariables false
set_option linter.unusedSimpArgs false
set_option maxRecDepth 100000

/-- a row behind the end of a line, by places -/
def lineC (single : Bool) (wd : Nat) (top row : List Nat) : List Bool := if single then rowC row wd else againstA row top wd 0 false
theorem lineF_C (single : Bool) {wd : Nat} {above X : List Bool} (hX : X.length = wd) : lineF single wd above X = lineC single wd (changes above) (changes X) := by
  subst hX
  cases single <;> rfl
theorem wst_drew {w w' : World} {gw : Nat} {v : Value} {l : List Bool} (h : WsT w.drew gw v l false w') : WsT w gw v l false w' := by
  obtain ⟨v2, h1, h2, h3⟩ := h
  exact ⟨v2, h1, (Only.drawn _ (show Drawn w w.drew from ⟨1, rfl⟩)).trans h2, h3⟩
theorem drew_below (w : World) : Below w.heap.size w w.drew := (show Drawn w w.drew from ⟨1, rfl⟩).below _
set_option maxHeartbeats 4000000 in
theorem writeLine_any (D : Nat) (W0 w : World) (B C gp gw c wd : Nat) (every : Int) (two al ends single : Bool) (v : Value) (l : List Bool) (p1 : Option Addr) (m1 c1 : Nat) (row : List Nat) (p2 : Option Addr) (m2 c2 : Nat) (top : List Nat) (hCW : CW D W0 B C c gw v l false w) (hP : PgB w gp gw c (wd : Int) every two al ends) (hm : ¬ Mine gw v gp)
    (hA1 : Apt w gw v p1 m1 c1 row) (hA2 : Apt w gw v p2 m2 c2 top) (hv1 : Valid row wd) (hv2 : Valid top wd) (h1 : 1 ≤ wd) (hn : wd ≤ 32768) (hl1 : m1 ≤ 1000) (hl2 : m2 ≤ 1000) (hl : l.length + (lineC single wd top row).length ≤ 1650000) (hl3 : l.length + 200 * (m1 + 1) ≤ 1650000) :
    Calls Tryz.prog 21 #[.pointer (some ⟨gp, 0, none⟩), .slice p1 m1 c1, .slice p2 m2 c2, .bool single] w (WrP w gw v l (tailF l.length two al single ++ lineC single wd top row) false) := by
  have c5 := hP.c5
  have HE := Lib.hid (endLine_any w gp gw c wd every two al ends al single v l hP hCW.ws (by omega))
  have HCW := Lib.hid hCW
  have HP := Lib.hid hP
  have HM := Lib.hid hm
  have HA1 := Lib.hid hA1
  have HA2 := Lib.hid hA2
  have HV1 := Lib.hid hv1
  have HV2 := Lib.hid hv2
  have htl := tailF_len l.length two al single
  have HTL := Lib.hid htl
  clear hCW hP hm hA1 hA2 hv1 hv2 htl
  cases single
  · have hl4 : l.length + (againstA row top wd 0 false).length ≤ 1650000 := hl
    have HL4 := Lib.hid hl4
    clear hl hl4
    go_enter Tryz.func21, Tryz.ntmps21
    go_wp2_with fail
    refine HE.out.mono ?_
    rintro e w1 ⟨rfl, hT⟩
    obtain ⟨v1, hW1, ho1, hd1⟩ := hT
    have hP1 := HP.out.only ho1 HM.out
    have hCW1 := Mh.CW.wrote2 HCW.out hW1 ho1 hd1
    have hA11 := HA1.out.wrote ho1 hd1
    have hA21 := HA2.out.wrote ho1 hd1
    have HWR := Lib.hid (writeAgainst_any w1.drew B C c gw v1 (l ++ tailF l.length two al false) false p1 m1 c1 row p2 m2 c2 top wd (hCW1.more (drew_below w1)).cd (hCW1.more (drew_below w1)).ws hCW1.out (hA11.more (drew_below w1)).1 hA11.2.1 (by omega) hA11.2.2.1 hA11.2.2.2 HV1.out (hA21.more (drew_below w1)).1 hA21.2.1 (by omega) hA21.2.2.1 hA21.2.2.2 HV2.out h1 hn (by rw [List.length_append]; have := HTL.out; have := HL4.out; omega))
    have k0 : w1.drew.cell? ⟨gp, 0, none⟩ = some (.pointer (some ⟨gw, 0, none⟩)) := hP1.c0
    have k1 : w1.drew.cell? ⟨gp, 1, none⟩ = some (.pointer (some ⟨c, 0, none⟩)) := hP1.c1
    have k2 : w1.drew.cell? ⟨gp, 2, none⟩ = some (.int .i64 (wd : Int)) := hP1.c2
    have HPD : Hid (PgB w1.drew gp gw c (wd : Int) every two al ends) := Lib.hid hP1
    have HMD : Hid (¬ Mine gw v1 gp) := Lib.hid (fun hh => by
      rcases hh with e | e
      · exact HM.out (.inl e)
      · rcases hd1 _ e with e2 | e2
        · exact HM.out (.inr e2)
        · have := HP.out.lt; omega)
    have HO1 := Lib.hid ho1
    have HD1 := Lib.hid hd1
    clear hW1 ho1 hd1 hP1 hCW1 hA11 hA21 c5
    go_wp2_with fail
    refine wp_region_held_drew (S := fun w' => w'.cell? ⟨gp, 0, none⟩ = some (.pointer (some ⟨gw, 0, none⟩)) ∧ w'.cell? ⟨gp, 1, none⟩ = some (.pointer (some ⟨c, 0, none⟩)) ∧ w'.cell? ⟨gp, 2, none⟩ = some (.int .i64 (wd : Int))) (by kernel_rfl) ⟨k0, k1, k2⟩ (fun hHeld => ?_)
    refine wpAnyH_take (i := 0) (v := ?v1) rfl (by kernel_rfl) (by kernel_rfl) (by kernel_rfl) (fun _ _ _ h => h) (Or.inl ⟨by rfl, fun w hSw => ?y1⟩) hHeld ?r1
    case y1 => (try dsimp only at hSw); first | (go_simp; done) | (go_simp; with_reducible rfl)
    try simp only [Act.put, List.setIfInBounds_toArray, List.set_cons_zero, List.set_cons_succ, List.getElem_toArray, List.getElem_cons_zero, List.getElem_cons_succ]
    refine wpAnyH_take (i := 1) (v := ?v2) rfl (by kernel_rfl) (by kernel_rfl) (by kernel_rfl) (fun _ _ _ h => h) (Or.inl ⟨by rfl, fun w hSw => ?y2⟩) hHeld ?r2
    case y2 => (try dsimp only at hSw); first | (go_simp; done) | (go_simp; with_reducible rfl)
    try simp only [Act.put, List.setIfInBounds_toArray, List.set_cons_zero, List.set_cons_succ, List.getElem_toArray, List.getElem_cons_zero, List.getElem_cons_succ]
    refine wpAnyH_take (i := 2) (v := ?v3) rfl (by kernel_rfl) (by kernel_rfl) (by kernel_rfl) (fun _ _ _ h => h) (Or.inl ⟨by rfl, fun w hSw => ?y3⟩) hHeld ?r3
    case y3 => (try dsimp only at hSw); first | (go_simp; done) | (go_simp; with_reducible rfl)
    try simp only [Act.put, List.setIfInBounds_toArray, List.set_cons_zero, List.set_cons_succ, List.getElem_toArray, List.getElem_cons_zero, List.getElem_cons_succ]
    refine wpAnyH_take (i := 3) (v := ?v4) rfl (by kernel_rfl) (by kernel_rfl) (by kernel_rfl) (fun _ _ _ h => h) (Or.inl ⟨by rfl, fun w hSw => ?y4⟩) hHeld ?r4
    case y4 => (try dsimp only at hSw); first | (go_simp; done) | (go_simp; with_reducible rfl)
    try simp only [Act.put, List.setIfInBounds_toArray, List.set_cons_zero, List.set_cons_succ, List.getElem_toArray, List.getElem_cons_zero, List.getElem_cons_succ]
    refine wpAnyH_take (i := 4) (v := ?v5) rfl (by kernel_rfl) (by kernel_rfl) (by kernel_rfl) (fun _ _ _ h => h) (Or.inl ⟨by rfl, fun w hSw => ?y5⟩) hHeld ?r5
    case y5 => (try dsimp only at hSw); first | (go_simp; done) | (go_simp; with_reducible rfl)
    try simp only [Act.put, List.setIfInBounds_toArray, List.set_cons_zero, List.set_cons_succ, List.getElem_toArray, List.getElem_cons_zero, List.getElem_cons_succ]
    refine wpAnyH_take (i := 5) (v := ?v6) rfl (by kernel_rfl) (by kernel_rfl) (by kernel_rfl) (fun _ _ _ h => h) (Or.inl ⟨by rfl, fun w hSw => ?y6⟩) hHeld ?r6
    case y6 => (try dsimp only at hSw); first | (go_simp; done) | (go_simp; with_reducible rfl)
    try simp only [Act.put, List.setIfInBounds_toArray, List.set_cons_zero, List.set_cons_succ, List.getElem_toArray, List.getElem_cons_zero, List.getElem_cons_succ]
    refine wpAnyH_take (i := 6) (v := ?v7) rfl (by kernel_rfl) (by kernel_rfl) (by kernel_rfl) (fun _ _ _ h => h) (Or.inl ⟨by rfl, fun w hSw => ?y7⟩) hHeld ?r7
    case y7 => (try dsimp only at hSw); first | (go_simp; done) | (go_simp; with_reducible rfl)
    try simp only [Act.put, List.setIfInBounds_toArray, List.set_cons_zero, List.set_cons_succ, List.getElem_toArray, List.getElem_cons_zero, List.getElem_cons_succ]
    refine wpAnyH_take (i := 7) (v := ?v8) rfl (by kernel_rfl) (by kernel_rfl) (by kernel_rfl) (fun _ _ _ h => h) (Or.inl ⟨by rfl, fun w hSw => ?y8⟩) hHeld ?r8
    case y8 => (try dsimp only at hSw); first | (go_simp; done) | (go_simp; with_reducible rfl)
    try simp only [Act.put, List.setIfInBounds_toArray, List.set_cons_zero, List.set_cons_succ, List.getElem_toArray, List.getElem_cons_zero, List.getElem_cons_succ]
    refine wpAnyH_take (i := 8) (v := ?v9) rfl (by kernel_rfl) (by kernel_rfl) (by kernel_rfl) (fun _ _ _ h => h) (Or.inl ⟨by rfl, fun w hSw => ?y9⟩) hHeld ?r9
    case y9 => (try dsimp only at hSw); first | (go_simp; done) | (go_simp; with_reducible rfl)
    try simp only [Act.put, List.setIfInBounds_toArray, List.set_cons_zero, List.set_cons_succ, List.getElem_toArray, List.getElem_cons_zero, List.getElem_cons_succ]
    refine wpAnyH_take (i := 9) (v := ?v10) rfl (by kernel_rfl) (by kernel_rfl) (by kernel_rfl) (fun _ _ _ h => h) (Or.inl ⟨by rfl, fun w hSw => ?y10⟩) hHeld ?r10
    case y10 => (try dsimp only at hSw); first | (go_simp; done) | (go_simp; with_reducible rfl)
    try simp only [Act.put, List.setIfInBounds_toArray, List.set_cons_zero, List.set_cons_succ, List.getElem_toArray, List.getElem_cons_zero, List.getElem_cons_succ]
    refine wpAnyH_take (i := 10) (v := ?v11) rfl (by kernel_rfl) (by kernel_rfl) (by kernel_rfl) (fun _ _ _ h => h) (Or.inl ⟨by rfl, fun w hSw => ?y11⟩) hHeld ?r11
    case y11 => (try dsimp only at hSw); first | (go_simp; done) | (go_simp; with_reducible rfl)
    try simp only [Act.put, List.setIfInBounds_toArray, List.set_cons_zero, List.set_cons_succ, List.getElem_toArray, List.getElem_cons_zero, List.getElem_cons_succ]
    refine wpAnyH_take (i := 11) (v := ?v12) rfl (by kernel_rfl) (by kernel_rfl) (by kernel_rfl) (fun _ _ _ h => h) (Or.inl ⟨by rfl, fun w hSw => ?y12⟩) hHeld ?r12
    case y12 => (try dsimp only at hSw); first | (go_simp; done) | (go_simp; with_reducible rfl)
    try simp only [Act.put, List.setIfInBounds_toArray, List.set_cons_zero, List.set_cons_succ, List.getElem_toArray, List.getElem_cons_zero, List.getElem_cons_succ]
    refine wpAnyH_take (i := 12) (v := ?v13) rfl (by kernel_rfl) (by kernel_rfl) (by kernel_rfl) (fun _ _ _ h => h) (Or.inl ⟨by rfl, fun w hSw => ?y13⟩) hHeld ?r13
    case y13 => (try dsimp only at hSw); first | (go_simp; done) | (go_simp; with_reducible rfl)
    try simp only [Act.put, List.setIfInBounds_toArray, List.set_cons_zero, List.set_cons_succ, List.getElem_toArray, List.getElem_cons_zero, List.getElem_cons_succ]
    refine wpAnyH_take (i := 13) (v := ?v14) rfl (by kernel_rfl) (by kernel_rfl) (by kernel_rfl) (fun _ _ _ h => h) (Or.inl ⟨by rfl, fun w hSw => ?y14⟩) hHeld ?r14
    case y14 => (try dsimp only at hSw); first | (go_simp; done) | (go_simp; with_reducible rfl)
    try simp only [Act.put, List.setIfInBounds_toArray, List.set_cons_zero, List.set_cons_succ, List.getElem_toArray, List.getElem_cons_zero, List.getElem_cons_succ]
    refine wpAnyH_ready (rs := [14]) (by kernel_rfl) (by simp) ?_
    refine AllReadyH.cons rfl (fun K hK => ?_) AllReadyH.nil
    go_simp
    refine HWR.out.mono ?_
    rintro e w2 ⟨rfl, hT2⟩
    have HT2 := Lib.hid hT2
    have HS2 : Hid (w2.cell? ⟨gp, 0, none⟩ = some (.pointer (some ⟨gw, 0, none⟩)) ∧ w2.cell? ⟨gp, 1, none⟩ = some (.pointer (some ⟨c, 0, none⟩)) ∧ w2.cell? ⟨gp, 2, none⟩ = some (.int .i64 (wd : Int))) := Lib.hid (by
      obtain ⟨v2, hW2, ho2, hd2⟩ := hT2
      have hP2 := HPD.out.only ho2 HMD.out
      exact ⟨hP2.c0, hP2.c1, hP2.c2⟩)
    clear hT2
    go_wp2_with fail
    refine hK.out _ _ HS2.out (fun hHeld2 => ?_)
    clear hK K
    try simp only [Act.put, List.setIfInBounds_toArray, List.set_cons_zero, List.set_cons_succ, List.getElem_toArray, List.getElem_cons_zero, List.getElem_cons_succ]
    refine wpAnyH_take (i := 15) (v := ?v15) rfl (by kernel_rfl) (by kernel_rfl) (by kernel_rfl) (fun _ _ _ h => h) (Or.inl ⟨by rfl, fun w hSw => ?y15⟩) hHeld2 ?r15
    case y15 => (try dsimp only at hSw); first | (go_simp; done) | (go_simp; with_reducible rfl)
    try simp only [Act.put, List.setIfInBounds_toArray, List.set_cons_zero, List.set_cons_succ, List.getElem_toArray, List.getElem_cons_zero, List.getElem_cons_succ]
    refine wpAnyH_done (by kernel_rfl) ?_ _
    clear hHeld hHeld2 k0 k1 k2 HS2 HWR
    go_wp2_with fail
    go_ret
    refine ⟨rfl, ?_⟩
    have h := WrT.more HO1.out HD1.out (wst_drew HT2.out)
    rw [List.append_assoc] at h
    exact h
  · clear hl
    go_enter Tryz.func21, Tryz.ntmps21
    go_wp2_with fail
    refine HE.out.mono ?_
    rintro e w1 ⟨rfl, hT⟩
    obtain ⟨v1, hW1, ho1, hd1⟩ := hT
    have hP1 := HP.out.only ho1 HM.out
    have hCW1 := Mh.CW.wrote2 HCW.out hW1 ho1 hd1
    have hA11 := HA1.out.wrote ho1 hd1
    have hA21 := HA2.out.wrote ho1 hd1
    have HWR := Lib.hid (writeRow_any w1.drew B C c gw v1 (l ++ tailF l.length two al true) false p1 m1 c1 row wd (hCW1.more (drew_below w1)).cd (hCW1.more (drew_below w1)).ws hCW1.out (hA11.more (drew_below w1)).1 hA11.2.1 HV1.out h1 hn (by rw [List.length_append]; have := HTL.out; omega))
    have k0 : w1.drew.cell? ⟨gp, 0, none⟩ = some (.pointer (some ⟨gw, 0, none⟩)) := hP1.c0
    have k1 : w1.drew.cell? ⟨gp, 1, none⟩ = some (.pointer (some ⟨c, 0, none⟩)) := hP1.c1
    have k2 : w1.drew.cell? ⟨gp, 2, none⟩ = some (.int .i64 (wd : Int)) := hP1.c2
    have HPD : Hid (PgB w1.drew gp gw c (wd : Int) every two al ends) := Lib.hid hP1
    have HMD : Hid (¬ Mine gw v1 gp) := Lib.hid (fun hh => by
      rcases hh with e | e
      · exact HM.out (.inl e)
      · rcases hd1 _ e with e2 | e2
        · exact HM.out (.inr e2)
        · have := HP.out.lt; omega)
    have HO1 := Lib.hid ho1
    have HD1 := Lib.hid hd1
    clear hW1 ho1 hd1 hP1 hCW1 hA11 hA21 c5
    go_wp2_with fail
    refine wp_region_held_drew (S := fun w' => w'.cell? ⟨gp, 0, none⟩ = some (.pointer (some ⟨gw, 0, none⟩)) ∧ w'.cell? ⟨gp, 1, none⟩ = some (.pointer (some ⟨c, 0, none⟩)) ∧ w'.cell? ⟨gp, 2, none⟩ = some (.int .i64 (wd : Int))) (by kernel_rfl) ⟨k0, k1, k2⟩ (fun hHeld => ?_)
    refine wpAnyH_take (i := 0) (v := ?v16) rfl (by kernel_rfl) (by kernel_rfl) (by kernel_rfl) (fun _ _ _ h => h) (Or.inl ⟨by rfl, fun w hSw => ?y16⟩) hHeld ?r16
    case y16 => (try dsimp only at hSw); first | (go_simp; done) | (go_simp; with_reducible rfl)
    try simp only [Act.put, List.setIfInBounds_toArray, List.set_cons_zero, List.set_cons_succ, List.getElem_toArray, List.getElem_cons_zero, List.getElem_cons_succ]
    refine wpAnyH_take (i := 1) (v := ?v17) rfl (by kernel_rfl) (by kernel_rfl) (by kernel_rfl) (fun _ _ _ h => h) (Or.inl ⟨by rfl, fun w hSw => ?y17⟩) hHeld ?r17
    case y17 => (try dsimp only at hSw); first | (go_simp; done) | (go_simp; with_reducible rfl)
    try simp only [Act.put, List.setIfInBounds_toArray, List.set_cons_zero, List.set_cons_succ, List.getElem_toArray, List.getElem_cons_zero, List.getElem_cons_succ]
    refine wpAnyH_take (i := 2) (v := ?v18) rfl (by kernel_rfl) (by kernel_rfl) (by kernel_rfl) (fun _ _ _ h => h) (Or.inl ⟨by rfl, fun w hSw => ?y18⟩) hHeld ?r18
    case y18 => (try dsimp only at hSw); first | (go_simp; done) | (go_simp; with_reducible rfl)
    try simp only [Act.put, List.setIfInBounds_toArray, List.set_cons_zero, List.set_cons_succ, List.getElem_toArray, List.getElem_cons_zero, List.getElem_cons_succ]
    refine wpAnyH_take (i := 3) (v := ?v19) rfl (by kernel_rfl) (by kernel_rfl) (by kernel_rfl) (fun _ _ _ h => h) (Or.inl ⟨by rfl, fun w hSw => ?y19⟩) hHeld ?r19
    case y19 => (try dsimp only at hSw); first | (go_simp; done) | (go_simp; with_reducible rfl)
    try simp only [Act.put, List.setIfInBounds_toArray, List.set_cons_zero, List.set_cons_succ, List.getElem_toArray, List.getElem_cons_zero, List.getElem_cons_succ]
    refine wpAnyH_take (i := 4) (v := ?v20) rfl (by kernel_rfl) (by kernel_rfl) (by kernel_rfl) (fun _ _ _ h => h) (Or.inl ⟨by rfl, fun w hSw => ?y20⟩) hHeld ?r20
    case y20 => (try dsimp only at hSw); first | (go_simp; done) | (go_simp; with_reducible rfl)
    try simp only [Act.put, List.setIfInBounds_toArray, List.set_cons_zero, List.set_cons_succ, List.getElem_toArray, List.getElem_cons_zero, List.getElem_cons_succ]
    refine wpAnyH_take (i := 5) (v := ?v21) rfl (by kernel_rfl) (by kernel_rfl) (by kernel_rfl) (fun _ _ _ h => h) (Or.inl ⟨by rfl, fun w hSw => ?y21⟩) hHeld ?r21
    case y21 => (try dsimp only at hSw); first | (go_simp; done) | (go_simp; with_reducible rfl)
    try simp only [Act.put, List.setIfInBounds_toArray, List.set_cons_zero, List.set_cons_succ, List.getElem_toArray, List.getElem_cons_zero, List.getElem_cons_succ]
    refine wpAnyH_take (i := 6) (v := ?v22) rfl (by kernel_rfl) (by kernel_rfl) (by kernel_rfl) (fun _ _ _ h => h) (Or.inl ⟨by rfl, fun w hSw => ?y22⟩) hHeld ?r22
    case y22 => (try dsimp only at hSw); first | (go_simp; done) | (go_simp; with_reducible rfl)
    try simp only [Act.put, List.setIfInBounds_toArray, List.set_cons_zero, List.set_cons_succ, List.getElem_toArray, List.getElem_cons_zero, List.getElem_cons_succ]
    refine wpAnyH_take (i := 7) (v := ?v23) rfl (by kernel_rfl) (by kernel_rfl) (by kernel_rfl) (fun _ _ _ h => h) (Or.inl ⟨by rfl, fun w hSw => ?y23⟩) hHeld ?r23
    case y23 => (try dsimp only at hSw); first | (go_simp; done) | (go_simp; with_reducible rfl)
    try simp only [Act.put, List.setIfInBounds_toArray, List.set_cons_zero, List.set_cons_succ, List.getElem_toArray, List.getElem_cons_zero, List.getElem_cons_succ]
    refine wpAnyH_take (i := 8) (v := ?v24) rfl (by kernel_rfl) (by kernel_rfl) (by kernel_rfl) (fun _ _ _ h => h) (Or.inl ⟨by rfl, fun w hSw => ?y24⟩) hHeld ?r24
    case y24 => (try dsimp only at hSw); first | (go_simp; done) | (go_simp; with_reducible rfl)
    try simp only [Act.put, List.setIfInBounds_toArray, List.set_cons_zero, List.set_cons_succ, List.getElem_toArray, List.getElem_cons_zero, List.getElem_cons_succ]
    refine wpAnyH_take (i := 9) (v := ?v25) rfl (by kernel_rfl) (by kernel_rfl) (by kernel_rfl) (fun _ _ _ h => h) (Or.inl ⟨by rfl, fun w hSw => ?y25⟩) hHeld ?r25
    case y25 => (try dsimp only at hSw); first | (go_simp; done) | (go_simp; with_reducible rfl)
    try simp only [Act.put, List.setIfInBounds_toArray, List.set_cons_zero, List.set_cons_succ, List.getElem_toArray, List.getElem_cons_zero, List.getElem_cons_succ]
    refine wpAnyH_take (i := 10) (v := ?v26) rfl (by kernel_rfl) (by kernel_rfl) (by kernel_rfl) (fun _ _ _ h => h) (Or.inl ⟨by rfl, fun w hSw => ?y26⟩) hHeld ?r26
    case y26 => (try dsimp only at hSw); first | (go_simp; done) | (go_simp; with_reducible rfl)
    try simp only [Act.put, List.setIfInBounds_toArray, List.set_cons_zero, List.set_cons_succ, List.getElem_toArray, List.getElem_cons_zero, List.getElem_cons_succ]
    refine wpAnyH_take (i := 11) (v := ?v27) rfl (by kernel_rfl) (by kernel_rfl) (by kernel_rfl) (fun _ _ _ h => h) (Or.inl ⟨by rfl, fun w hSw => ?y27⟩) hHeld ?r27
    case y27 => (try dsimp only at hSw); first | (go_simp; done) | (go_simp; with_reducible rfl)
    try simp only [Act.put, List.setIfInBounds_toArray, List.set_cons_zero, List.set_cons_succ, List.getElem_toArray, List.getElem_cons_zero, List.getElem_cons_succ]
    refine wpAnyH_take (i := 12) (v := ?v28) rfl (by kernel_rfl) (by kernel_rfl) (by kernel_rfl) (fun _ _ _ h => h) (Or.inl ⟨by rfl, fun w hSw => ?y28⟩) hHeld ?r28
    case y28 => (try dsimp only at hSw); first | (go_simp; done) | (go_simp; with_reducible rfl)
    try simp only [Act.put, List.setIfInBounds_toArray, List.set_cons_zero, List.set_cons_succ, List.getElem_toArray, List.getElem_cons_zero, List.getElem_cons_succ]
    refine wpAnyH_ready (rs := [13]) (by kernel_rfl) (by simp) ?_
    refine AllReadyH.cons rfl (fun K hK => ?_) AllReadyH.nil
    go_simp
    refine HWR.out.mono ?_
    rintro e w2 ⟨rfl, hT2⟩
    have HT2 := Lib.hid hT2
    have HS2 : Hid (w2.cell? ⟨gp, 0, none⟩ = some (.pointer (some ⟨gw, 0, none⟩)) ∧ w2.cell? ⟨gp, 1, none⟩ = some (.pointer (some ⟨c, 0, none⟩)) ∧ w2.cell? ⟨gp, 2, none⟩ = some (.int .i64 (wd : Int))) := Lib.hid (by
      obtain ⟨v2, hW2, ho2, hd2⟩ := hT2
      have hP2 := HPD.out.only ho2 HMD.out
      exact ⟨hP2.c0, hP2.c1, hP2.c2⟩)
    clear hT2
    go_wp2_with fail
    refine hK.out _ _ HS2.out (fun hHeld2 => ?_)
    clear hK K
    try simp only [Act.put, List.setIfInBounds_toArray, List.set_cons_zero, List.set_cons_succ, List.getElem_toArray, List.getElem_cons_zero, List.getElem_cons_succ]
    refine wpAnyH_take (i := 14) (v := ?v29) rfl (by kernel_rfl) (by kernel_rfl) (by kernel_rfl) (fun _ _ _ h => h) (Or.inl ⟨by rfl, fun w hSw => ?y29⟩) hHeld2 ?r29
    case y29 => (try dsimp only at hSw); first | (go_simp; done) | (go_simp; with_reducible rfl)
    try simp only [Act.put, List.setIfInBounds_toArray, List.set_cons_zero, List.set_cons_succ, List.getElem_toArray, List.getElem_cons_zero, List.getElem_cons_succ]
    refine wpAnyH_done (by kernel_rfl) ?_ _
    clear hHeld hHeld2 k0 k1 k2 HS2 HWR
    go_wp2_with fail
    go_ret
    refine ⟨rfl, ?_⟩
    have h := WrT.more HO1.out HD1.out (wst_drew HT2.out)
    rw [List.append_assoc] at h
    exact h
end Go.Proofs.YtmbfgejephgojaaGreatDoor.Gt
/- The end of a page; the contract of Encode. -/
namespace Go.Proofs.YtmbfgejephgojaaGreatDoor.Gt
open Go.RowKit Go.Proofs.YtmbfgejephgojaaGreatDoor.Oct Go.Proofs.YtmbfgejephgojaaGreatDoor.Bit
open Go.Proofs.YtmbfgejephgojaaGreatDoor.Fx (WrP eol CW Cd Out OutW Tab codes_any)
open Go.Proofs.YtmbfgejephgojaaGreatDoor.Mh (endF rowC againstA Apt rowF Tbl EncP)
open Go.Proofs.YtmbfgejephgojaaGreatDoor.Rn (changes zl zl_length Valid changes_valid)
open Go.Proofs.YtmbfgejephgojaaGreatDoor.Lp (VRow ints ints_length blk_set blk_frozen)
set_option linter.unusedVariables false
set_option linter.unusedSimpArgs false
set_option maxRecDepth 100000

/-- ends of lines behind a page, told so far -/
def endsG (two al : Bool) (l : List Bool) : Nat → List Bool
  | 0 => l
  | n + 1 => endsF two n (endF l two al true)
theorem endsG_step (two al : Bool) (l : List Bool) (i : Nat) (b : Bool) (hb : b = (al && decide (i = 0))) : endsG two al l (i + 1) = endsG two al l i ++ tailF (endsG two al l i).length two b true := by
  subst hb
  rw [← endF_tail]
  cases i with
  | zero =>
    show endF l two al true = _
    cases al <;> rfl
  | succ n =>
    show endsF two (n + 1) (endF l two al true) = _
    rw [show (al && decide (n + 1 = 0)) = false from by cases al <;> simp]
    rfl
theorem endsG_len (two al : Bool) (l : List Bool) (i : Nat) : (endsG two al l i).length ≤ l.length + 20 * i := by
  cases i with
  | zero => exact Nat.le_refl _
  | succ n =>
    have h1 := endsF_len two n (endF l two al true)
    have h2 := endF_len l two al true
    show (endsF two n (endF l two al true)).length ≤ _
    omega
set_option maxHeartbeats 4000000 in
theorem writeEnd_any (w : World) (gp gw c : Nat) (wd every : Int) (two al ends : Bool) (v : Value) (l : List Bool) (hP : PgB w gp gw c wd every two al ends) (hm : ¬ Mine gw v gp) (hW : Ws w gw v l false) (hl : l.length ≤ 1700000) :
    Calls Tryz.prog 22 #[.pointer (some ⟨gp, 0, none⟩)] w fun e w' => e = .returned (.int .i64 0) ∧ WsT w gw v (endsG two al l 6) false w' := by
  have HP := Lib.hid hP
  have HM := Lib.hid hm
  have HW := Lib.hid hW
  clear hP hm hW
  go_enter Tryz.func22, Tryz.ntmps22
  go_wp2_with fail
  go_loopw [3, 4, 5] (fun _ _ sk wr => ∃ k : Nat, k ≤ 6 ∧ sk = .int .i64 (k : Int) ∧ Hid (WsT w gw v (endsG two al l k) false wr)) (fun _ _ sk _ => 6 - (intOf sk).toNat)
  case atStart => exact ⟨0, by omega, rfl, Lib.hid (WrT.refl HW.out)⟩
  case round =>
    obtain ⟨k, hk, rfl, HT⟩ := hrel
    by_cases hlt : k < 6
    · have hd : decide ((k : Int) < 6) = true := by simp; omega
      obtain ⟨v1, hW1, ho1, hd1⟩ := HT.out
      have hP1 := HP.out.only ho1 HM.out
      have c5 := hP1.c5
      have hgl := endsG_len two al l k
      have HEN := Lib.hid (fun b => endLine_any wr gp gw c wd every two al ends b true v1 (endsG two al l k) hP1 hW1 (by omega))
      have HO1 := Lib.hid ho1
      have HD1 := Lib.hid hd1
      clear hW1 ho1 hd1 hP1 hgl
      have fin : ∀ (b : Bool) (w2 : World), b = (al && decide (k = 0)) → WsT wr gw v1 (endsG two al l k ++ tailF (endsG two al l k).length two b true) false w2 → Hid (WsT w gw v (endsG two al l (k + 1)) false w2) := fun b w2 hb h => Lib.hid (by
        rw [endsG_step two al l k b hb]
        exact WrT.more HO1.out HD1.out h)
      have FIN := Lib.hid fin
      clear fin
      cases al
      · have HE := Lib.hid (HEN.out false)
        clear HEN
        go_wp2_with fail
        refine HE.out.mono ?_
        rintro e w2 ⟨rfl, hT2⟩
        have HT2 := FIN.out false w2 rfl hT2
        clear hT2
        go_wp2_with fail
        go_roundw
        case rel => exact ⟨k + 1, by omega, by go_num, HT2⟩
        case measure => simp [intOf]; omega
      · by_cases h0 : k = 0
        · have HK := Lib.hid h0
          have hd0 : ((k : Int) == 0) = true := by simp; omega
          have HE := Lib.hid (HEN.out true)
          clear HEN h0
          go_wp2_with fail
          refine HE.out.mono ?_
          rintro e w2 ⟨rfl, hT2⟩
          have HT2 := FIN.out true w2 (by have h := HK.out; simp [h]) hT2
          clear hT2
          go_wp2_with fail
          go_roundw
          case rel => exact ⟨k + 1, by omega, by go_num, HT2⟩
          case measure => simp [intOf]; omega
        · have HK := Lib.hid h0
          have hd0 : ((k : Int) == 0) = false := by simp; omega
          have HE := Lib.hid (HEN.out false)
          clear HEN
          go_wp2_with fail
          refine HE.out.mono ?_
          rintro e w2 ⟨rfl, hT2⟩
          have HT2 := FIN.out false w2 (by have h := HK.out; simp [h]) hT2
          clear hT2
          go_wp2_with fail
          go_roundw
          case rel => exact ⟨k + 1, by omega, by go_num, HT2⟩
          case measure => simp [intOf]; omega
    · have hke : k = 6 := by omega
      have hd : decide ((k : Int) < 6) = false := by simp; omega
      have HT6 : Hid (WsT w gw v (endsG two al l 6) false wr) := Lib.hid (by have h := HT.out; rw [hke] at h; exact h)
      clear HT hke
      go_wp2_with fail
      go_ret
      exact ⟨rfl, HT6.out⟩
def put7 (V : World) (n : Nat) (u0 u1 u2 u3 u4 u5 u6 : Value) : World := ((((((V.setCell ⟨n, 0, none⟩ u0).setCell ⟨n, 1, none⟩ u1).setCell ⟨n, 2, none⟩ u2).setCell ⟨n, 3, none⟩ u3).setCell ⟨n, 4, none⟩ u4).setCell ⟨n, 5, none⟩ u5).setCell ⟨n, 6, none⟩ u6
/-- a page just made -/
def Pg0 (w : World) (gp : Nat) : Prop := w.heap[gp]? = some (.cells #[.pointer none, .pointer none, .int .i64 0, .bool false, .int .i64 0, .bool false, .bool false] 49 (0, 0))
theorem Pg0.put {w : World} {gp gw c : Nat} {wd every : Int} {two al ends : Bool} (h : Pg0 w gp) : PgB (put7 w gp (.pointer (some ⟨gw, 0, none⟩)) (.pointer (some ⟨c, 0, none⟩)) (.int .i64 wd) (.bool two) (.int .i64 every) (.bool al) (.bool ends)) gp gw c wd every two al ends :=
  blk_set (blk_set (blk_set (blk_set (blk_set (blk_set (blk_set h 0 _) 1 _) 2 _) 3 _) 4 _) 5 _) 6 _
theorem Pg0.lt {w : World} {gp : Nat} (h : Pg0 w gp) : gp < w.heap.size := by
  rcases Nat.lt_or_ge gp w.heap.size with hlt | hge
  · exact hlt
  · rw [Pg0, Array.getElem?_eq_none hge] at h; cases h
theorem Pg0.below {w w' : World} {gp : Nat} (h : Pg0 w gp) (hb : Below w.heap.size w w') : Pg0 w' gp := by
  have := hb.block gp h.lt
  unfold Pg0 at *
  rw [this]
  exact h
theorem pg0_new (w : World) : Pg0 (w.alloc (.cells #[.pointer none, .pointer none, .int .i64 0, .bool false, .int .i64 0, .bool false, .bool false] 49)) w.heap.size := Array.getElem?_push_size
theorem alloc_size (w : World) (o : Obj) : (w.alloc o).heap.size = w.heap.size + 1 := by simp
theorem alloc_below (w : World) (o : Obj) : Below w.heap.size w (w.alloc o) := (Below.refl _ w).alloc (Nat.le_refl _) _
theorem put7_only {S : Nat → Prop} {w : World} {n : Nat} (hn : S n) (u0 u1 u2 u3 u4 u5 u6 : Value) : Only S w (put7 w n u0 u1 u2 u3 u4 u5 u6) := by
  unfold put7
  exact (((((((Only.refl S w).trans (Only.setCell (p := ⟨n, 0, none⟩) hn _)).trans (Only.setCell (p := ⟨n, 1, none⟩) hn _)).trans (Only.setCell (p := ⟨n, 2, none⟩) hn _)).trans (Only.setCell (p := ⟨n, 3, none⟩) hn _)).trans (Only.setCell (p := ⟨n, 4, none⟩) hn _)).trans (Only.setCell (p := ⟨n, 5, none⟩) hn _)).trans (Only.setCell (p := ⟨n, 6, none⟩) hn _)
/-- a page under way -/
structure PgS (D : Nat) (W0 : World) (gp gw c : Nat) (wd : Nat) (every : Int) (two al ends : Bool) (v : Value) (l : List Bool) (w : World) : Prop where
  cw : ∃ B C, CW D W0 B C c gw v l false w
  bx : PgB w gp gw c (wd : Int) every two al ends
  nm : ¬ Mine gw v gp
section
variable {D : Nat} {W0 w w' : World} {gp gw c wd : Nat} {every : Int} {two al ends : Bool} {v v' : Value} {l m : List Bool}
theorem PgS.wrote (h : PgS D W0 gp gw c wd every two al ends v l w) (hW : Ws w' gw v' (l ++ m) false) (ho : Only (Mine gw v) w w') (hv : ∀ k, v'.ownBlock = some k → v.ownBlock = some k ∨ w.heap.size ≤ k) : PgS D W0 gp gw c wd every two al ends v' (l ++ m) w' := by
  obtain ⟨⟨B, C, h1⟩, h2, h3⟩ := h
  refine ⟨⟨B, C, Mh.CW.wrote2 h1 hW ho hv⟩, h2.only ho h3, fun e => ?_⟩
  rcases e with e | e
  · exact h3 (.inl e)
  · rcases hv _ e with e2 | e2
    · exact h3 (.inr e2)
    · have := h2.lt; omega
theorem PgS.bel (h : PgS D W0 gp gw c wd every two al ends v l w) : Below D W0 w := by obtain ⟨⟨B, C, h1⟩, _, _⟩ := h; exact h1.bel
theorem PgS.dz (h : PgS D W0 gp gw c wd every two al ends v l w) : D ≤ w.heap.size := by obtain ⟨⟨B, C, h1⟩, _, _⟩ := h; exact h1.dz
theorem PgS.mine (h : PgS D W0 gp gw c wd every two al ends v l w) (k : Nat) (hk : Mine gw v k) : D ≤ k := by obtain ⟨⟨B, C, h1⟩, _, _⟩ := h; exact h1.mine k hk
theorem PgS.ws (h : PgS D W0 gp gw c wd every two al ends v l w) : Ws w gw v l false := by obtain ⟨⟨B, C, h1⟩, _, _⟩ := h; exact h1.ws
end
/-- three blocks made one behind the other, and what was stored into one of them -/
theorem pgs_new {D : Nat} {W0 w1 : World} {gp gw c B C wd : Nat} {every : Int} {two al ends : Bool} (hc : Cd w1 B C c) (hw : Ws w1 gw (.slice none 0 0) [] false) (hp : Pg0 w1 gp) (hb : Below D W0 w1) (hD : D ≤ w1.heap.size) (h1 : D ≤ gw) (h2 : D ≤ gp) (h3 : gw < B ∨ C ≤ gw) (h4 : gp < B ∨ C ≤ gp) (h5 : gp ≠ gw) :
    PgS D W0 gp gw c wd every two al ends (.slice none 0 0) [] (put7 w1 gp (.pointer (some ⟨gw, 0, none⟩)) (.pointer (some ⟨c, 0, none⟩)) (.int .i64 (wd : Int)) (.bool two) (.int .i64 every) (.bool al) (.bool ends)) := by
  have ho := put7_only (S := (· = gp)) (w := w1) (n := gp) rfl (.pointer (some ⟨gw, 0, none⟩)) (.pointer (some ⟨c, 0, none⟩)) (.int .i64 (wd : Int)) (.bool two) (.int .i64 every) (.bool al) (.bool ends)
  have hnm : ∀ k, Mine gw (.slice none 0 0) k → k = gw := fun k hk => by
    rcases hk with e | e
    · exact e
    · cases e
  refine ⟨⟨B, C, hc.only ho (fun k hk => by rw [hk]; exact h4), Wr.only hw ho (fun e => h5 e.symm) (fun k hk => by cases hk), fun k hk => by rw [hnm k hk]; exact h3, fun k hk => by rw [hnm k hk]; exact h1, hb.trans (ho.below hD (fun k hk e => by omega)), Nat.le_trans hD ho.2.2.2.1⟩, hp.put, fun hm => h5 (hnm _ hm)⟩
theorem cut4 {goal : Prop} (H G : Nat → Nat → Nat → World → Prop) (main : (∀ a b c W, H a b c W → G a b c W) → goal) (key : ∀ a b c W, H a b c W → G a b c W) : goal := main key
/-- is a row told by its lengths? -/
theorem single_two {i : Nat} {every : Int} {ev : Nat} (he : every = (ev : Int)) (h1 : 1 ≤ ev) : ((i : Int).tmod every == 0) = (i % ev == 0) := by
  subst he
  rw [Int.tmod_eq_emod_of_nonneg (by omega)]
  rw [Bool.eq_iff_iff]
  simp only [beq_iff_eq]
  omega
theorem topF_len {above : List Bool} {wd : Nat} (ha : above.length = wd) : ∀ (l : List (List Bool)), (∀ X ∈ l, X.length = wd) → (topF above l).length = wd := fun l hl => by
  rcases List.eq_nil_or_concat l with e | ⟨l2, X, e⟩
  · rw [e]; exact ha
  · rw [e, List.concat_eq_append, topF_one]
    exact hl X (by rw [e]; simp)
theorem rowsF_two {two al : Bool} {every wd k n : Nat} {above : List Bool} {Xs : List (List Bool)} (hk : k < Xs.length) : rowsF two al every wd 0 above (Xs.take (k + 1)) [] = rowsF two al every wd 0 above (Xs.take k) [] ++ (tailF (rowsF two al every wd 0 above (Xs.take k) []).length two al (!two || k % every == 0) ++ lineF (!two || k % every == 0) wd (topF above (Xs.take k)) Xs[k]) := by
  rw [List.take_succ_eq_append_getElem hk, rowsF_snoc, nextF, endF_tail, List.length_take, Nat.zero_add, Nat.min_eq_left (by omega), List.append_assoc]
end Go.Proofs.YtmbfgejephgojaaGreatDoor.Gt
/- The contract of Encode. -/
namespace Go.Proofs.YtmbfgejephgojaaGreatDoor.Gt
open Go.RowKit Go.Proofs.YtmbfgejephgojaaGreatDoor.Oct Go.Proofs.YtmbfgejephgojaaGreatDoor.Bit
open Go.Proofs.YtmbfgejephgojaaGreatDoor.Fx (WrP eol CW Cd Out OutW Tab codes_any)
open Go.Proofs.YtmbfgejephgojaaGreatDoor.Mh (endF rowC againstA Apt rowF Tbl EncP ArgR)
open Go.Proofs.YtmbfgejephgojaaGreatDoor.Rn (changes zl zl_length Valid changes_valid)
open Go.Proofs.YtmbfgejephgojaaGreatDoor.Lp (VRow ints ints_length blk_set blk_frozen)
set_option linter.unusedVariables false
set_option linter.unusedSimpArgs false
set_option maxRecDepth 100000

/-- the box of options -/
def BxO (w : World) (go : Nat) (every : Int) (two al ends : Bool) : Prop := w.heap[go]? = some (.cells #[.bool two, .int .i64 every, .bool al, .bool ends] 24 (0, 0))
theorem BxO.cells {w : World} {go : Nat} {every : Int} {two al ends : Bool} (h : BxO w go every two al ends) : w.cell? ⟨go, 0, none⟩ = some (.bool two) ∧ w.cell? ⟨go, 1, none⟩ = some (.int .i64 every) ∧ w.cell? ⟨go, 2, none⟩ = some (.bool al) ∧ w.cell? ⟨go, 3, none⟩ = some (.bool ends) := by
  refine ⟨?_, ?_, ?_, ?_⟩ <;> (rw [cell_of_row _ go _ _ _ _ h]; rfl)
theorem BxO.lt {w : World} {go : Nat} {every : Int} {two al ends : Bool} (h : BxO w go every two al ends) : go < w.heap.size := by
  rcases Nat.lt_or_ge go w.heap.size with hlt | hge
  · exact hlt
  · rw [BxO, Array.getElem?_eq_none hge] at h; cases h
theorem BxO.below {w w' : World} {D go : Nat} {every : Int} {two al ends : Bool} (h : BxO w go every two al ends) (hb : Below D w w') (hD : go < D) : BxO w' go every two al ends := by
  have := hb.block go hD
  unfold BxO at *
  rw [this]
  exact h
theorem bxO_new (w : World) (every : Int) (two al ends : Bool) : BxO (w.alloc (.cells #[.bool two, .int .i64 every, .bool al, .bool ends] 24)) w.heap.size every two al ends := Array.getElem?_push_size
theorem Pg0.cells {w : World} {gp : Nat} (h : Pg0 w gp) : w.cell? ⟨gp, 0, none⟩ = some (.pointer none) ∧ w.cell? ⟨gp, 1, none⟩ = some (.pointer none) ∧ w.cell? ⟨gp, 2, none⟩ = some (.int .i64 0) ∧ w.cell? ⟨gp, 3, none⟩ = some (.bool false) ∧ w.cell? ⟨gp, 4, none⟩ = some (.int .i64 0) ∧ w.cell? ⟨gp, 5, none⟩ = some (.bool false) ∧ w.cell? ⟨gp, 6, none⟩ = some (.bool false) := by
  refine ⟨?_, ?_, ?_, ?_, ?_, ?_, ?_⟩ <;> (rw [cell_of_row _ gp _ _ _ _ h]; rfl)
theorem gencode_bad (w : World) (q : Option Addr) (n cap : Nat) (z every : Int) (two al ends : Bool) (hb : (decide (1 ≤ every) || !two) = false ∨ decide (1 ≤ z ∧ z ≤ 32768) = false) :
    Calls Tryz.prog 7 #[.slice q n cap, .int .i64 z, .agg #[.bool two, .int .i64 every, .bool al, .bool ends]] w fun e w' => e = .returned (.tuple #[.slice none 0 0, .int .i64 1]) ∧ Below w.heap.size w w' := by
  have HW := Lib.hid (fun W => gwidth_any z W)
  have HRT := Lib.hid (fun W => right_any two al ends every W)
  obtain ⟨r, hr⟩ : ∃ r, r = (decide (1 ≤ every) || !two) := ⟨_, rfl⟩
  obtain ⟨s, hs⟩ : ∃ s, s = decide (1 ≤ z ∧ z ≤ 32768) := ⟨_, rfl⟩
  rw [← hr] at hb HRT
  rw [← hs] at hb HW
  clear hr hs
  cases r
  · clear HW hb
    go_enter Tryz.func7, Tryz.ntmps7
    go_wp2_with fail
    refine (HRT.out _).mono ?_
    rintro e w2 ⟨rfl, hb2⟩
    have HB2 := Lib.hid (((Below.refl _ w).alloc (Nat.le_refl _) _).trans (hb2.mono (by simp)))
    clear hb2
    go_wp2_with fail
    go_ret2
    exact ⟨rfl, HB2.out⟩
  · rcases hb with h | h
    · cases h
    · subst h
      go_enter Tryz.func7, Tryz.ntmps7
      go_wp2_with fail
      refine (HRT.out _).mono ?_
      rintro e w2 ⟨rfl, hb2⟩
      have HB2 := Lib.hid (((Below.refl _ w).alloc (Nat.le_refl _) _).trans (hb2.mono (by simp)))
      clear hb2
      go_wp2_with fail
      refine (HW.out _).mono ?_
      rintro e w' ⟨rfl, rfl⟩
      go_wp2_with fail
      go_ret2
      exact ⟨rfl, HB2.out⟩
/-- how long a row is, of whatever width -/
theorem lineF_lenW {single : Bool} {w : Nat} {above X : List Bool} (ha : above.length = w) (hX : X.length = w) (hw : w ≤ 400) : (lineF single w above X).length ≤ 118 * w + 59 := by
  have h1 := Rn.chg_len X false 0
  have h2 := Rn.chg_len above false 0
  have hv := changes_valid X
  have hv2 := changes_valid above
  cases single
  · have := Mh.against_len0 (T := 26) (hX ▸ hv) (ha ▸ hv2) (fun b x hx => Mh.tell_len2 b (n := x) (by omega))
    change (againstA (changes X) (changes above) w 0 false).length ≤ _
    unfold changes at this
    unfold changes
    have h3 : (2 * 26 + 7) * ((Rn.chg false 0 X).length + (Rn.chg false 0 above).length + 1) ≤ 59 * (w + w + 1) := Nat.mul_le_mul (by omega) (by omega)
    omega
  · change (rowF X).length ≤ _
    rw [Mh.rowF_runs]
    have := Mh.restR_len2 X false 0 (by omega)
    unfold Mh.restR at this
    omega
theorem pageG_lenW {two aligned ends : Bool} {every w : Nat} {l : List (List Bool)} (hl : ∀ X ∈ l, X.length = w) (hw : w ≤ 400) : (pageG two aligned ends every w l).length ≤ (118 * w + 79) * l.length + 120 := by
  have h := rowsF_len (two := two) (aligned := aligned) (every := every) (c := 118 * w + 59) l 0 (List.replicate w false) [] (by simp) hl (fun single above X ha hX => lineF_lenW ha hX hw)
  rw [List.length_nil, Nat.zero_add, show 118 * w + 59 + 20 = 118 * w + 79 from by omega] at h
  unfold pageG
  split
  · have h3 := endF_len (rowsF two aligned every w 0 (List.replicate w false) l []) two aligned true
    have h4 := endsF_len two 5 (endF (rowsF two aligned every w 0 (List.replicate w false) l []) two aligned true)
    omega
  · omega
set_option maxHeartbeats 16000000 in
theorem gencode_wide (w : World) (hT : Tab w) (q : Option Addr) (n cap : Nat) (Xs : List (List Bool)) (wd : Nat) (every : Int) (two al ends : Bool) (hR : Tbl w w.heap.size q (Xs.map changes)) (hn : Xs.length = n) (hn2 : n ≤ 1000) (hl : ∀ X ∈ Xs, X.length = wd) (h1 : 1 ≤ wd) (hw : wd ≤ 400) (hev : two = true → 1 ≤ every) (K : Nat) (hK : K = 118 * wd + 79) (hKn : K * (n + 1) ≤ 1400000) :
    Calls Tryz.prog 7 #[.slice q n cap, .int .i64 (wd : Int), .agg #[.bool two, .int .i64 every, .bool al, .bool ends]] w (EncP w (pageG two al ends every.toNat wd Xs)) := by
  have hwt := fun W => gwidth_any (wd : Int) W
  rw [show decide (1 ≤ (wd : Int) ∧ (wd : Int) ≤ 32768) = true from by simp; omega] at hwt
  have HW := Lib.hid hwt
  have hrt := fun W => right_any two al ends every W
  rw [show (decide (1 ≤ every) || !two) = true from by cases two <;> simp_all] at hrt
  have HRT := Lib.hid hrt
  have HT := Lib.hid hT
  have HR := Lib.hid hR
  have HN := Lib.hid hn
  have HL := Lib.hid hl
  have HEV := Lib.hid hev
  have hpl := pageG_lenW (two := two) (aligned := al) (ends := ends) (every := every.toNat) hl hw
  rw [← hK, hn] at hpl
  have hpl2 : (pageG two al ends every.toNat wd Xs).length ≤ 1400140 := by rw [Nat.mul_succ] at hKn; omega
  have HKK := Lib.hid hK
  have HPL := Lib.hid hpl2
  clear hwt hrt hT hR hn hl hev hpl hpl2 hK
  go_enter Tryz.func7, Tryz.ntmps7
  go_wp2_with fail
  refine (HRT.out _).mono ?_
  rintro e w2 ⟨rfl, hb2⟩
  have hbx2 := (bxO_new w every two al ends).below hb2 (by simp)
  have HB2 := Lib.hid ((alloc_below w _).trans (hb2.mono (by simp)))
  have hgo2 : w.heap.size < w2.heap.size := hbx2.lt
  have HBX := Lib.hid hbx2
  have HGO := Lib.hid hgo2
  clear hb2 hbx2 hgo2
  obtain ⟨go, hgo⟩ : ∃ go, go = w.heap.size := ⟨_, rfl⟩
  rw [← hgo] at HBX HGO ⊢
  have HG := Lib.hid hgo
  clear hgo
  obtain ⟨b0, b1, b2, b3⟩ := HBX.out.cells
  go_wp2_with fail
  refine (HW.out _).mono ?_
  rintro e w' ⟨rfl, rfl⟩
  go_wp2_with fail
  have HT2 := Lib.hid (HT.out.below HB2.out HT.out.lt)
  have hd2 : Below w2.heap.size w2 w2.drew := drew_below w2
  have HD2 := Lib.hid hd2
  have HTD : Hid (Tab w2.drew) := Lib.hid (HT2.out.below hd2 HT2.out.lt)
  clear hd2 b0 b1 b2 b3
  apply cut4 (H := fun gw gp c W => Hid (PgS w2.heap.size w2 gp gw c wd every two al ends (.slice none 0 0) [] W))
  case main =>
    intro KEY
    obtain ⟨k0, k1, k2, k3⟩ := (HBX.out.below HD2.out HGO.out).cells
    refine wp_region_held_drew (S := fun W => W.cell? ⟨go, 0, none⟩ = some (.bool two) ∧ W.cell? ⟨go, 1, none⟩ = some (.int .i64 every) ∧ W.cell? ⟨go, 2, none⟩ = some (.bool al) ∧ W.cell? ⟨go, 3, none⟩ = some (.bool ends)) (by kernel_rfl) ⟨k0, k1, k2, k3⟩ (fun hHeld => ?_)
    clear k0 k1 k2 k3
    have HBWwz : Hid (Below w2.heap.size w2 w2.drew) := HD2
    refine wpAnyH_take (i := 2) (v := ?v1) rfl (by kernel_rfl) (by kernel_rfl) (by kernel_rfl) (fun _ _ _ h => h) (Or.inl ⟨by rfl, fun w hSw => ?y1⟩) hHeld ?r1
    case y1 => (try dsimp only at hSw); first | (go_simp; done) | (go_simp; with_reducible rfl)
    try simp only [Act.put, List.setIfInBounds_toArray, List.set_cons_zero, List.set_cons_succ, List.getElem_toArray, List.getElem_cons_zero, List.getElem_cons_succ]
    refine wpAnyH_take (i := 3) (v := ?v2) rfl (by kernel_rfl) (by kernel_rfl) (by kernel_rfl) (fun _ _ _ h => h) (Or.inl ⟨by rfl, fun w hSw => ?y2⟩) hHeld ?r2
    case y2 => (try dsimp only at hSw); first | (go_simp; done) | (go_simp; with_reducible rfl)
    try simp only [Act.put, List.setIfInBounds_toArray, List.set_cons_zero, List.set_cons_succ, List.getElem_toArray, List.getElem_cons_zero, List.getElem_cons_succ]
    refine wpAnyH_ready (rs := [0, 5]) (by kernel_rfl) (by simp) ?_
    refine AllReadyH.cons rfl (fun K hK => ?_) ?_
    · go_simp
      refine (newWriter_any false w2.drew).mono ?_
      rintro e w3 ⟨hnb, he, hnw⟩
      rw [show w2.drew.heap.size = w2.heap.size from rfl] at he hnw hnb
      obtain ⟨gw, hgw⟩ : ∃ gw, gw = w2.heap.size := ⟨_, rfl⟩
      rw [← hgw] at he hnw
      subst he
      have HNB := Lib.hid hnb
      have HNW := Lib.hid hnw
      have HGW := Lib.hid hgw
      have HBWw3 : Hid (Below w2.heap.size w2 w3) := Lib.hid (HBWwz.out.trans (hnb.mono HBWwz.out.size))
      clear hnb hnw hgw
      go_wp2_with fail
      refine hK.out _ _ (HBX.out.below HBWw3.out HGO.out).cells (fun hHeld3 => ?_)
      clear hK K
      try simp only [Act.put, List.setIfInBounds_toArray, List.set_cons_zero, List.set_cons_succ, List.getElem_toArray, List.getElem_cons_zero, List.getElem_cons_succ]
      refine wpAnyH_ready (rs := [1, 5]) (by kernel_rfl) (by simp) ?_
      refine AllReadyH.cons rfl (fun K hK => ?_) ?_
      · go_simp
        refine (codes_any w3 (HT2.out.below HBWw3.out HT2.out.lt)).mono ?_
        rintro e w4 ⟨hcb, c, rfl, hcd⟩
        have HCB := Lib.hid hcb
        have HCD := Lib.hid hcd
        have HBWw4 : Hid (Below w2.heap.size w2 w4) := Lib.hid (HBWw3.out.trans (hcb.mono HBWw3.out.size))
        clear hcb hcd
        go_wp2_with fail
        refine hK.out _ _ (HBX.out.below HBWw4.out HGO.out).cells (fun hHeld4 => ?_)
        clear hK K
        try simp only [Act.put, List.setIfInBounds_toArray, List.set_cons_zero, List.set_cons_succ, List.getElem_toArray, List.getElem_cons_zero, List.getElem_cons_succ]
        refine wpAnyH_take (i := 4) (v := ?v3) rfl (by kernel_rfl) (by kernel_rfl) (by kernel_rfl) (fun _ _ _ h => h) (Or.inl ⟨by rfl, fun w hSw => ?y3⟩) hHeld4 ?r3
        case y3 => (try dsimp only at hSw); first | (go_simp; done) | (go_simp; with_reducible rfl)
        try simp only [Act.put, List.setIfInBounds_toArray, List.set_cons_zero, List.set_cons_succ, List.getElem_toArray, List.getElem_cons_zero, List.getElem_cons_succ]
        refine wpAnyH_ready (rs := [5]) (by kernel_rfl) (by simp) ?_
        refine AllReadyH.cons rfl (fun K hK => ?_) AllReadyH.nil
        go_simp
        obtain ⟨w5, hqq⟩ : ∃ W, W = w4.alloc (.cells #[.pointer none, .pointer none, .int .i64 0, .bool false, .int .i64 0, .bool false, .bool false] 49) := ⟨_, rfl⟩
        have hpp : Pg0 w5 w4.heap.size := by rw [hqq]; exact pg0_new w4
        have hpb : Below w4.heap.size w4 w5 := by rw [hqq]; exact alloc_below w4 _
        have hpz : w5.heap.size = w4.heap.size + 1 := by rw [hqq]; exact alloc_size w4 _
        rw [← hqq]
        obtain ⟨gp, hgp⟩ : ∃ gp, gp = w4.heap.size := ⟨_, rfl⟩
        rw [← hgp] at hpp
        try rw [← hgp]
        have HPP := Lib.hid hpp
        have HPB := Lib.hid hpb
        have HPZ := Lib.hid hpz
        have HGP := Lib.hid hgp
        have HBWw5 : Hid (Below w2.heap.size w2 w5) := Lib.hid (HBWw4.out.trans (hpb.mono HBWw4.out.size))
        clear hqq hpp hpb hpz hgp
        refine hK.out _ _ (HBX.out.below HBWw5.out HGO.out).cells (fun hHeld5 => ?_)
        clear hK K
        try simp only [Act.put, List.setIfInBounds_toArray, List.set_cons_zero, List.set_cons_succ, List.getElem_toArray, List.getElem_cons_zero, List.getElem_cons_succ]
        have z1 := HNB.out.size
        have z2 := HCB.out.size
        have z3 := HPZ.out
        have z4 := HGW.out
        have z5 := HGP.out
        have z7 := HNW.out.lt
        have HPG := Lib.hid HPP.out
        have HPGS := Lib.hid (pgs_new (wd := wd) (every := every) (two := two) (al := al) (ends := ends) (HCD.out.below HPB.out (by omega)) (Wr.only HNW.out (Only.of_below (HCB.out.trans (HPB.out.mono (by omega))) : Only (fun _ => False) _ _) (fun e => e) (fun _ h => by cases h)) HPG.out HBWw5.out HBWw5.out.size (by omega) (by omega) (.inl (by omega)) (.inr (by omega)) (by omega))
        clear z1 z2 z3 z4 z5 z7
        obtain ⟨p0, p1, p2, p3, p4, p5, p6⟩ := HPG.out.cells
        have f0 := blk_frozen HPG.out 0
        have f1 := blk_frozen HPG.out 1
        have f2 := blk_frozen HPG.out 2
        have f3 := blk_frozen HPG.out 3
        have f4 := blk_frozen HPG.out 4
        have f5 := blk_frozen HPG.out 5
        have f6 := blk_frozen HPG.out 6
        refine wpAnyH_ready (rs := [6]) (by kernel_rfl) (by simp) ?_
        refine AllReadyH.cons rfl (fun K hK => ?_) AllReadyH.nil
        go_simp
        obtain ⟨W9, hW9⟩ : ∃ W9, W9 = put7 w5 gp (.pointer (some ⟨gw, 0, none⟩)) (.pointer (some ⟨c, 0, none⟩)) (.int .i64 (wd : Int)) (.bool two) (.int .i64 every) (.bool al) (.bool ends) := ⟨_, rfl⟩
        have HS9 : Hid (PgS w2.heap.size w2 gp gw c wd every two al ends (.slice none 0 0) [] W9) := Lib.hid (by rw [hW9]; exact HPGS.out)
        unfold put7 at hW9
        rw [← hW9]
        clear hW9 p0 p1 p2 p3 p4 p5 p6 f0 f1 f2 f3 f4 f5 f6
        refine hK.out _ _ (HBX.out.below HS9.out.bel HGO.out).cells (fun hHeld9 => ?_)
        clear hK K
        try simp only [Act.put, List.setIfInBounds_toArray, List.set_cons_zero, List.set_cons_succ, List.getElem_toArray, List.getElem_cons_zero, List.getElem_cons_succ]
        refine wpAnyH_done (by kernel_rfl) ?_ _
        exact KEY gw gp c W9 HS9
      refine AllReadyH.cons rfl (fun K hK => ?_) AllReadyH.nil
      go_simp
      obtain ⟨w4, hqq⟩ : ∃ W, W = w3.alloc (.cells #[.pointer none, .pointer none, .int .i64 0, .bool false, .int .i64 0, .bool false, .bool false] 49) := ⟨_, rfl⟩
      have hpp : Pg0 w4 w3.heap.size := by rw [hqq]; exact pg0_new w3
      have hpb : Below w3.heap.size w3 w4 := by rw [hqq]; exact alloc_below w3 _
      have hpz : w4.heap.size = w3.heap.size + 1 := by rw [hqq]; exact alloc_size w3 _
      rw [← hqq]
      obtain ⟨gp, hgp⟩ : ∃ gp, gp = w3.heap.size := ⟨_, rfl⟩
      rw [← hgp] at hpp
      try rw [← hgp]
      have HPP := Lib.hid hpp
      have HPB := Lib.hid hpb
      have HPZ := Lib.hid hpz
      have HGP := Lib.hid hgp
      have HBWw4 : Hid (Below w2.heap.size w2 w4) := Lib.hid (HBWw3.out.trans (hpb.mono HBWw3.out.size))
      clear hqq hpp hpb hpz hgp
      refine hK.out _ _ (HBX.out.below HBWw4.out HGO.out).cells (fun hHeld4 => ?_)
      clear hK K
      try simp only [Act.put, List.setIfInBounds_toArray, List.set_cons_zero, List.set_cons_succ, List.getElem_toArray, List.getElem_cons_zero, List.getElem_cons_succ]
      refine wpAnyH_ready (rs := [1]) (by kernel_rfl) (by simp) ?_
      refine AllReadyH.cons rfl (fun K hK => ?_) AllReadyH.nil
      go_simp
      refine (codes_any w4 (HT2.out.below HBWw4.out HT2.out.lt)).mono ?_
      rintro e w5 ⟨hcb, c, rfl, hcd⟩
      have HCB := Lib.hid hcb
      have HCD := Lib.hid hcd
      have HBWw5 : Hid (Below w2.heap.size w2 w5) := Lib.hid (HBWw4.out.trans (hcb.mono HBWw4.out.size))
      clear hcb hcd
      go_wp2_with fail
      refine hK.out _ _ (HBX.out.below HBWw5.out HGO.out).cells (fun hHeld5 => ?_)
      clear hK K
      try simp only [Act.put, List.setIfInBounds_toArray, List.set_cons_zero, List.set_cons_succ, List.getElem_toArray, List.getElem_cons_zero, List.getElem_cons_succ]
      have z1 := HNB.out.size
      have z2 := HCB.out.size
      have z3 := HPZ.out
      have z4 := HGW.out
      have z5 := HGP.out
      have z7 := HNW.out.lt
      have HPG := Lib.hid (HPP.out.below HCB.out)
      have HPGS := Lib.hid (pgs_new (wd := wd) (every := every) (two := two) (al := al) (ends := ends) (HCD.out) (Wr.only HNW.out (Only.of_below (HPB.out.trans (HCB.out.mono (by omega))) : Only (fun _ => False) _ _) (fun e => e) (fun _ h => by cases h)) HPG.out HBWw5.out HBWw5.out.size (by omega) (by omega) (.inl (by omega)) (.inl (by omega)) (by omega))
      clear z1 z2 z3 z4 z5 z7
      obtain ⟨p0, p1, p2, p3, p4, p5, p6⟩ := HPG.out.cells
      have f0 := blk_frozen HPG.out 0
      have f1 := blk_frozen HPG.out 1
      have f2 := blk_frozen HPG.out 2
      have f3 := blk_frozen HPG.out 3
      have f4 := blk_frozen HPG.out 4
      have f5 := blk_frozen HPG.out 5
      have f6 := blk_frozen HPG.out 6
      refine wpAnyH_take (i := 4) (v := ?v5) rfl (by kernel_rfl) (by kernel_rfl) (by kernel_rfl) (fun _ _ _ h => h) (Or.inl ⟨by rfl, fun w hSw => ?y5⟩) hHeld5 ?r5
      case y5 => (try dsimp only at hSw); first | (go_simp; done) | (go_simp; with_reducible rfl)
      try simp only [Act.put, List.setIfInBounds_toArray, List.set_cons_zero, List.set_cons_succ, List.getElem_toArray, List.getElem_cons_zero, List.getElem_cons_succ]
      refine wpAnyH_ready (rs := [6]) (by kernel_rfl) (by simp) ?_
      refine AllReadyH.cons rfl (fun K hK => ?_) AllReadyH.nil
      go_simp
      obtain ⟨W9, hW9⟩ : ∃ W9, W9 = put7 w5 gp (.pointer (some ⟨gw, 0, none⟩)) (.pointer (some ⟨c, 0, none⟩)) (.int .i64 (wd : Int)) (.bool two) (.int .i64 every) (.bool al) (.bool ends) := ⟨_, rfl⟩
      have HS9 : Hid (PgS w2.heap.size w2 gp gw c wd every two al ends (.slice none 0 0) [] W9) := Lib.hid (by rw [hW9]; exact HPGS.out)
      unfold put7 at hW9
      rw [← hW9]
      clear hW9 p0 p1 p2 p3 p4 p5 p6 f0 f1 f2 f3 f4 f5 f6
      refine hK.out _ _ (HBX.out.below HS9.out.bel HGO.out).cells (fun hHeld9 => ?_)
      clear hK K
      try simp only [Act.put, List.setIfInBounds_toArray, List.set_cons_zero, List.set_cons_succ, List.getElem_toArray, List.getElem_cons_zero, List.getElem_cons_succ]
      refine wpAnyH_done (by kernel_rfl) ?_ _
      exact KEY gw gp c W9 HS9
    refine AllReadyH.cons rfl (fun K hK => ?_) AllReadyH.nil
    go_simp
    obtain ⟨w3, hqq⟩ : ∃ W, W = (w2.alloc (.cells #[.pointer none, .pointer none, .int .i64 0, .bool false, .int .i64 0, .bool false, .bool false] 49)).drew := ⟨_, rfl⟩
    have hpp : Pg0 w3 w2.heap.size := by rw [hqq]; exact pg0_new w2.drew
    have hpb : Below w2.heap.size w2.drew w3 := by rw [hqq]; exact alloc_below w2.drew _
    have hpz : w3.heap.size = w2.heap.size + 1 := by rw [hqq]; exact alloc_size w2.drew _
    rw [← hqq]
    try rw [show w2.drew.heap.size = w2.heap.size from rfl]
    obtain ⟨gp, hgp⟩ : ∃ gp, gp = w2.heap.size := ⟨_, rfl⟩
    rw [← hgp] at hpp
    try rw [← hgp]
    have HPP := Lib.hid hpp
    have HPB := Lib.hid hpb
    have HPZ := Lib.hid hpz
    have HGP := Lib.hid hgp
    have HBWw3 : Hid (Below w2.heap.size w2 w3) := Lib.hid (HBWwz.out.trans (hpb.mono HBWwz.out.size))
    clear hqq hpp hpb hpz hgp
    refine hK.out _ _ (HBX.out.below HBWw3.out HGO.out).cells (fun hHeld3 => ?_)
    clear hK K
    try simp only [Act.put, List.setIfInBounds_toArray, List.set_cons_zero, List.set_cons_succ, List.getElem_toArray, List.getElem_cons_zero, List.getElem_cons_succ]
    refine wpAnyH_ready (rs := [0]) (by kernel_rfl) (by simp) ?_
    refine AllReadyH.cons rfl (fun K hK => ?_) AllReadyH.nil
    go_simp
    refine (newWriter_any false w3).mono ?_
    rintro e w4 ⟨hnb, he, hnw⟩
    obtain ⟨gw, hgw⟩ : ∃ gw, gw = w3.heap.size := ⟨_, rfl⟩
    rw [← hgw] at he hnw
    subst he
    have HNB := Lib.hid hnb
    have HNW := Lib.hid hnw
    have HGW := Lib.hid hgw
    have HBWw4 : Hid (Below w2.heap.size w2 w4) := Lib.hid (HBWw3.out.trans (hnb.mono HBWw3.out.size))
    clear hnb hnw hgw
    go_wp2_with fail
    refine hK.out _ _ (HBX.out.below HBWw4.out HGO.out).cells (fun hHeld4 => ?_)
    clear hK K
    try simp only [Act.put, List.setIfInBounds_toArray, List.set_cons_zero, List.set_cons_succ, List.getElem_toArray, List.getElem_cons_zero, List.getElem_cons_succ]
    refine wpAnyH_ready (rs := [1]) (by kernel_rfl) (by simp) ?_
    refine AllReadyH.cons rfl (fun K hK => ?_) AllReadyH.nil
    go_simp
    refine (codes_any w4 (HT2.out.below HBWw4.out HT2.out.lt)).mono ?_
    rintro e w5 ⟨hcb, c, rfl, hcd⟩
    have HCB := Lib.hid hcb
    have HCD := Lib.hid hcd
    have HBWw5 : Hid (Below w2.heap.size w2 w5) := Lib.hid (HBWw4.out.trans (hcb.mono HBWw4.out.size))
    clear hcb hcd
    go_wp2_with fail
    refine hK.out _ _ (HBX.out.below HBWw5.out HGO.out).cells (fun hHeld5 => ?_)
    clear hK K
    try simp only [Act.put, List.setIfInBounds_toArray, List.set_cons_zero, List.set_cons_succ, List.getElem_toArray, List.getElem_cons_zero, List.getElem_cons_succ]
    have z1 := HNB.out.size
    have z2 := HCB.out.size
    have z3 := HPZ.out
    have z4 := HGW.out
    have z5 := HGP.out
    have z7 := HNW.out.lt
    have HPG := Lib.hid ((HPP.out.below HNB.out).below HCB.out)
    have HPGS := Lib.hid (pgs_new (wd := wd) (every := every) (two := two) (al := al) (ends := ends) (HCD.out) (Wr.only HNW.out (Only.of_below HCB.out : Only (fun _ => False) _ _) (fun e => e) (fun _ h => by cases h)) HPG.out HBWw5.out HBWw5.out.size (by omega) (by omega) (.inl (by omega)) (.inl (by omega)) (by omega))
    clear z1 z2 z3 z4 z5 z7
    obtain ⟨p0, p1, p2, p3, p4, p5, p6⟩ := HPG.out.cells
    have f0 := blk_frozen HPG.out 0
    have f1 := blk_frozen HPG.out 1
    have f2 := blk_frozen HPG.out 2
    have f3 := blk_frozen HPG.out 3
    have f4 := blk_frozen HPG.out 4
    have f5 := blk_frozen HPG.out 5
    have f6 := blk_frozen HPG.out 6
    refine wpAnyH_take (i := 4) (v := ?v6) rfl (by kernel_rfl) (by kernel_rfl) (by kernel_rfl) (fun _ _ _ h => h) (Or.inl ⟨by rfl, fun w hSw => ?y6⟩) hHeld5 ?r6
    case y6 => (try dsimp only at hSw); first | (go_simp; done) | (go_simp; with_reducible rfl)
    try simp only [Act.put, List.setIfInBounds_toArray, List.set_cons_zero, List.set_cons_succ, List.getElem_toArray, List.getElem_cons_zero, List.getElem_cons_succ]
    refine wpAnyH_ready (rs := [6]) (by kernel_rfl) (by simp) ?_
    refine AllReadyH.cons rfl (fun K hK => ?_) AllReadyH.nil
    go_simp
    obtain ⟨W9, hW9⟩ : ∃ W9, W9 = put7 w5 gp (.pointer (some ⟨gw, 0, none⟩)) (.pointer (some ⟨c, 0, none⟩)) (.int .i64 (wd : Int)) (.bool two) (.int .i64 every) (.bool al) (.bool ends) := ⟨_, rfl⟩
    have HS9 : Hid (PgS w2.heap.size w2 gp gw c wd every two al ends (.slice none 0 0) [] W9) := Lib.hid (by rw [hW9]; exact HPGS.out)
    unfold put7 at hW9
    rw [← hW9]
    clear hW9 p0 p1 p2 p3 p4 p5 p6 f0 f1 f2 f3 f4 f5 f6
    refine hK.out _ _ (HBX.out.below HS9.out.bel HGO.out).cells (fun hHeld9 => ?_)
    clear hK K
    try simp only [Act.put, List.setIfInBounds_toArray, List.set_cons_zero, List.set_cons_succ, List.getElem_toArray, List.getElem_cons_zero, List.getElem_cons_succ]
    refine wpAnyH_done (by kernel_rfl) ?_ _
    exact KEY gw gp c W9 HS9
  case key =>
    intro gw gp c W HS
    go_wp2_with fail
    go_loopw [9, 10, 11, 12, 29] (fun sab _ _ _ sk wr => ∃ (k : Nat) (v : Value) (l : List Bool) (qa : Option Addr) (ma ca : Nat), k ≤ n ∧ sk = .int .i64 (k : Int) ∧ sab = .slice qa ma ca ∧ Hid (PgS w2.heap.size w2 gp gw c wd every two al ends v l wr) ∧ Hid (Apt wr gw v qa ma ca (changes (topF (List.replicate wd false) (Xs.take k)))) ∧ Hid (l = rowsF two al every.toNat wd 0 (List.replicate wd false) (Xs.take k) []) ∧ ma ≤ 1000) (fun _ _ _ _ sk _ => n - (intOf sk).toNat)
    case atStart => exact ⟨0, _, _, none, 0, 0, by omega, rfl, rfl, HS, Lib.hid (by
      rw [List.take_zero, topF_nil, changes_white]
      exact ⟨fun h => absurd h (by simp [ints, zl]), rfl, Nat.le_refl _, fun a ha => by cases ha⟩), Lib.hid (by rw [List.take_zero]; rfl), by omega⟩
    case round =>
      obtain ⟨k, v, l, qa, ma, ca, hk, rfl, rfl, HSr, HAr, HLr, hma⟩ := hrel
      have hbw : Below w.heap.size w wr := HB2.out.trans (HSr.out.bel.mono HB2.out.size)
      have HBW := Lib.hid hbw
      have hllk : l.length ≤ K * k := by
        rw [HLr.out, HKK.out]
        have h := rowsF_len (two := two) (aligned := al) (every := every.toNat) (c := 118 * wd + 59) (Xs.take k) 0 (List.replicate wd false) [] (by simp) (fun X hX => HL.out X (List.mem_of_mem_take hX)) (fun single above X ha hX => lineF_lenW ha hX hw)
        rw [List.length_take, Nat.min_eq_left (by rw [HN.out]; exact hk)] at h
        simpa using h
      have hkk : K * k + K ≤ 1400000 := by
        have := Nat.mul_le_mul_left K (show k + 1 ≤ n + 1 by omega)
        rw [Nat.mul_succ] at this
        omega
      have hll4 : l.length + K ≤ 1400000 := by omega
      clear hllk hkk
      obtain ⟨b0, b1, b2, b3⟩ := (HBX.out.below HSr.out.bel HGO.out).cells
      clear HS
      by_cases hlt : k < n
      · have hd : decide ((k : Int) < (n : Int)) = true := by simp; omega
        have hkX : k < Xs.length := by rw [HN.out]; exact hlt
        obtain ⟨bb, off, hq, qk, ck, hcell, hvk, hck⟩ := (HR.out.below hbw).get (k := k) (by rw [List.length_map]; exact hkX)
        rw [List.getElem_map] at hcell hvk hck
        have hXl := HL.out Xs[k] (List.getElem_mem hkX)
        have hstep := rowsF_two (two := two) (al := al) (every := every.toNat) (wd := wd) (above := List.replicate wd false) (n := 0) hkX
        rw [← HLr.out] at hstep
        have htop := topF_len (above := List.replicate wd false) (wd := wd) (by simp) (Xs.take k) (fun X hX => HL.out X (List.mem_of_mem_take hX))
        have hnx : topF (List.replicate wd false) (Xs.take (k + 1)) = Xs[k] := by rw [List.take_succ_eq_append_getElem hkX, topF_one]
        have HNX := Lib.hid hnx
        generalize topF (List.replicate wd false) (Xs.take k) = TP at *
        generalize Xs[k] = X at *
        obtain ⟨S, hS⟩ : ∃ S, S = (!two || k % every.toNat == 0) := ⟨_, rfl⟩
        rw [← hS, lineF_C S hXl] at hstep
        have hlf := lineF_lenW (single := S) htop hXl hw
        rw [lineF_C S hXl] at hlf
        have hlf2 : (lineC S wd (changes TP) (changes X)).length ≤ K := by rw [HKK.out]; omega
        have hv1 := changes_valid X
        rw [hXl] at hv1
        have hv2 := changes_valid TP
        rw [htop] at hv2
        have hmx : (changes X).length ≤ 400 := by have := Rn.chg_len X false 0; unfold changes; omega
        obtain ⟨mk, hmk⟩ : ∃ mk, mk = (changes X).length := ⟨_, rfl⟩
        rw [← hmk] at hcell hck hmx
        have hA1 : Apt wr gw v qk mk ck (changes X) := ⟨hvk.mono hbw.size, hmk.symm, hck, fun a ha h0 hm => by
          obtain ⟨b, o, e, hb, _⟩ := hvk (by rw [ints_length, zl_length]; exact h0)
          rw [ha] at e
          injection e with e
          have h5 := HSr.out.mine _ hm
          rw [e] at h5
          have h6 := HB2.out.size
          simp only at h5
          omega⟩
        obtain ⟨⟨B, C, hCW⟩, hbx, hnm⟩ := HSr.out
        have HWL := Lib.hid (writeLine_any w2.heap.size w2 wr B C gp gw c wd every two al ends S v l qk mk ck (changes X) qa ma ca (changes TP) hCW hbx hnm hA1 HAr.out hv1 hv2 h1 (by omega) (by omega) hma (by omega) (by omega))
        have HA1 := Lib.hid hA1
        have HST := Lib.hid hstep
        subst hq
        have i1 : (0 : Int) ≤ (k : Int) := by omega
        have i2 : (k : Int) < (n : Int) := by omega
        have hma2 : mk ≤ 1000 := by omega
        have hCH : changes (topF (List.replicate wd false) (Xs.take (k + 1))) = changes X := by rw [HNX.out]
        have HCH := Lib.hid hCH
        clear hkX hvk hck hXl hstep htop hnx hlf hlf2 hv1 hv2 hmx hmk hA1 hCW hbx hnm hCH hll4 hbw
        cases two
        · have hSt : S = true := by rw [hS]; rfl
          subst hSt
          clear hS
          go_wp2_with fail
          refine HWL.out.mono ?_
          rintro e w5 ⟨rfl, hT5⟩
          obtain ⟨v5, hW5, ho5, hd5⟩ := hT5
          have H5 := Lib.hid (HSr.out.wrote hW5 ho5 hd5)
          have HA5 : Hid (Apt w5 gw v5 qk mk ck (changes (topF (List.replicate wd false) (Xs.take (k + 1))))) := Lib.hid (by rw [HCH.out]; exact HA1.out.wrote ho5 hd5)
          clear hW5 ho5 hd5
          go_wp2_with fail
          go_roundw
          case rel => exact ⟨k + 1, v5, _, qk, mk, ck, by omega, by go_num, rfl, H5, HA5, Lib.hid HST.out.symm, hma2⟩
          case measure => simp [intOf]; omega
        · have hev1 := HEV.out rfl
          obtain ⟨ev, hevn⟩ : ∃ ev : Nat, every = (ev : Int) := ⟨every.toNat, by omega⟩
          have hev0 : (every == 0) = false := by simp; omega
          have hevn0 : ¬ every = 0 := by omega
          have htn : every.toNat = ev := by omega
          obtain ⟨r, hr⟩ : ∃ r, r = k % ev := ⟨_, rfl⟩
          have hrk : r ≤ k := by rw [hr]; exact Nat.mod_le _ _
          have htm : (k : Int).tmod every = (r : Int) := by
            rw [hevn, Int.tmod_eq_emod_of_nonneg (by omega), hr]
            omega
          have hSr : ((r : Int) == 0) = S := by
            rw [hS, htn, ← hr]
            simp only [Bool.not_true, Bool.false_or]
            rw [Bool.eq_iff_iff]
            simp only [beq_iff_eq]
            omega
          clear hS hr hevn htn hev1
          cases S
          · go_wp2_with fail
            refine HWL.out.mono ?_
            rintro e w5 ⟨rfl, hT5⟩
            obtain ⟨v5, hW5, ho5, hd5⟩ := hT5
            have H5 := Lib.hid (HSr.out.wrote hW5 ho5 hd5)
            have HA5 : Hid (Apt w5 gw v5 qk mk ck (changes (topF (List.replicate wd false) (Xs.take (k + 1))))) := Lib.hid (by rw [HCH.out]; exact HA1.out.wrote ho5 hd5)
            clear hW5 ho5 hd5
            go_wp2_with fail
            go_roundw
            case rel => exact ⟨k + 1, v5, _, qk, mk, ck, by omega, by go_num, rfl, H5, HA5, Lib.hid HST.out.symm, hma2⟩
            case measure => simp [intOf]; omega
          · go_wp2_with fail
            refine HWL.out.mono ?_
            rintro e w5 ⟨rfl, hT5⟩
            obtain ⟨v5, hW5, ho5, hd5⟩ := hT5
            have H5 := Lib.hid (HSr.out.wrote hW5 ho5 hd5)
            have HA5 : Hid (Apt w5 gw v5 qk mk ck (changes (topF (List.replicate wd false) (Xs.take (k + 1))))) := Lib.hid (by rw [HCH.out]; exact HA1.out.wrote ho5 hd5)
            clear hW5 ho5 hd5
            go_wp2_with fail
            go_roundw
            case rel => exact ⟨k + 1, v5, _, qk, mk, ck, by omega, by go_num, rfl, H5, HA5, Lib.hid HST.out.symm, hma2⟩
            case measure => simp [intOf]; omega
      · have hke : k = n := by omega
        subst hke
        have hd : decide ((k : Int) < (k : Int)) = false := by simp
        have hlT : l = rowsF two al every.toNat wd 0 (List.replicate wd false) Xs [] := by
          have h := HLr.out
          rwa [List.take_of_length_le (by rw [HN.out]; exact Nat.le_refl _)] at h
        have c0 := HSr.out.bx.c0
        cases ends
        · have hpg : pageG two al false every.toNat wd Xs = l := by rw [hlT]; rfl
          have HPGE := Lib.hid hpg
          rw [hpg] at HPL
          have HBY := Lib.hid (bytes_any wr gw v l false HSr.out.ws (by have := HPL.out; omega))
          clear hlT hpg hll4 hbw
          go_wp2_with fail
          refine HBY.out.mono ?_
          rintro e w6 ⟨hb6, q6, c6, rfl, hr6, hc6, hm6, hn6, ha6⟩
          have HBF := Lib.hid (HBW.out.trans (hb6.mono HBW.out.size))
          have HR6 := Lib.hid hr6
          have HN6 := Lib.hid hn6
          have HC6 := Lib.hid hc6
          clear hb6 hr6 hn6 hc6 hm6 ha6
          go_wp2_with fail
          go_ret2
          refine ⟨HBF.out, q6, c6, ?_⟩
          rw [HPGE.out]
          exact ⟨rfl, HR6.out, HN6.out, HC6.out⟩
        · have hpg : pageG two al true every.toNat wd Xs = endsG two al l 6 := by rw [hlT]; rfl
          have HPGE := Lib.hid hpg
          rw [hpg] at HPL
          have HWE := Lib.hid (writeEnd_any wr gp gw c wd every two al true v l HSr.out.bx HSr.out.nm HSr.out.ws (by omega))
          clear hlT hpg hll4 hbw c0
          go_wp2_with fail
          refine HWE.out.mono ?_
          rintro e w5 ⟨rfl, hT5⟩
          obtain ⟨v5, hW5, ho5, hd5⟩ := hT5
          have c0 := (HSr.out.bx.only ho5 HSr.out.nm).c0
          have HBW5 : Hid (Below w.heap.size w w5) := Lib.hid (HBW.out.trans ((ho5.below HBW.out.size (fun kk hkk hm => by have := HSr.out.mine kk hm; have := HB2.out.size; have := HBW.out.size; omega)) : Below w.heap.size wr w5))
          have HBY := Lib.hid (bytes_any w5 gw v5 _ false hW5 (by have := HPL.out; omega))
          clear hW5 ho5 hd5
          go_wp2_with fail
          refine HBY.out.mono ?_
          rintro e w6 ⟨hb6, q6, c6, rfl, hr6, hc6, hm6, hn6, ha6⟩
          have HBF := Lib.hid (HBW5.out.trans (hb6.mono HBW5.out.size))
          have HR6 := Lib.hid hr6
          have HN6 := Lib.hid hn6
          have HC6 := Lib.hid hc6
          clear hb6 hr6 hn6 hc6 hm6 ha6
          go_wp2_with fail
          go_ret2
          refine ⟨HBF.out, q6, c6, ?_⟩
          rw [HPGE.out]
          exact ⟨rfl, HR6.out, HN6.out, HC6.out⟩
theorem gencode_any (w : World) (hT : Tab w) (q : Option Addr) (n cap : Nat) (Xs : List (List Bool)) (wd : Nat) (every : Int) (two al ends : Bool) (hR : Tbl w w.heap.size q (Xs.map changes)) (hn : Xs.length = n) (hn2 : n ≤ 20) (hl : ∀ X ∈ Xs, X.length = wd) (h1 : 1 ≤ wd) (hw : wd ≤ 400) (hev : two = true → 1 ≤ every) :
    Calls Tryz.prog 7 #[.slice q n cap, .int .i64 (wd : Int), .agg #[.bool two, .int .i64 every, .bool al, .bool ends]] w (EncP w (pageG two al ends every.toNat wd Xs)) :=
  gencode_wide w hT q n cap Xs wd every two al ends hR hn (by omega) hl h1 hw hev _ rfl (Nat.le_trans (Nat.mul_le_mul (show 118 * wd + 79 ≤ 47279 by omega) (show n + 1 ≤ 21 by omega)) (by omega))
end Go.Proofs.YtmbfgejephgojaaGreatDoor.Gt
