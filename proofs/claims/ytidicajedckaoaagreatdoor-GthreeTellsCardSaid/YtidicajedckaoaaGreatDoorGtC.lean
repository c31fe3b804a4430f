
/- strings.Repeat of one nought, a few times; the end of a line as it is written. -/
import Derived.Test.YtidicajedckaoaaGreatDoorFyI
import Derived.Test.YtidicajedckaoaaGreatDoorMhP
import Derived.Laws.Externs
import Derived.Test.YtidicajedckaoaaGreatDoorMiT
import Derived.Test.YtidicajedckaoaaGreatDoorGtN
namespace Go.Proofs.YtidicajedckaoaaGreatDoor.Gt
open Go.RowKit Go.Proofs.YtidicajedckaoaaGreatDoor.Oct Go.Proofs.YtidicajedckaoaaGreatDoor.Bit
open Go.Proofs.YtidicajedckaoaaGreatDoor.Fx (WrP eol)
open Go.Proofs.YtidicajedckaoaaGreatDoor.Mh (endF)
open Go.Proofs.YtidicajedckaoaaGreatDoor.Rn (changes)
set_option linter.unusedVariables false
set_option linter.unusedSimpArgs false
set_option maxRecDepth 100000

theorem and_maskF : ∀ c : Fin 8, bits .and .u64 ((c.val : Nat) : Int) 4294967295 = ((c.val : Nat) : Int) := by decide +kernel
theorem and_mask (c : Nat) (hc : c ≤ 7) : bits .and .u64 (c : Int) 4294967295 = (c : Int) := and_maskF ⟨c, by omega⟩
theorem mul64_one (c : Nat) (w : World) (hc : c ≤ 7) :
    Calls Tryz.prog 108 #[.int .u64 1, .int .u64 (c : Int)] w fun e w' => e = .returned (.tuple #[.int .u64 0, .int .u64 (c : Int)]) ∧ w = w' := by
  have h1 : bits .and .u64 1 4294967295 = 1 := by decide
  have h0 : bits .and .u64 0 4294967295 = 0 := by decide
  have h2 := and_mask c hc
  have h3 : (c : Int) / 4294967296 = 0 := by omega
  go_enter Tryz.func108, Tryz.ntmps108
  go_wp2
  go_ret2
  exact ⟨rfl, rfl⟩
theorem mul_one_any (c : Nat) (w : World) (hc : c ≤ 7) :
    Calls Tryz.prog 83 #[.int .u64 1, .int .u64 (c : Int)] w fun e w' => e = .returned (.tuple #[.int .u64 0, .int .u64 (c : Int)]) ∧ w = w' := by
  go_enter Tryz.func83, Tryz.ntmps83
  go_wp2_with fail
  refine (mul64_one _ _ hc).mono ?_
  rintro e w' ⟨rfl, rfl⟩
  go_wp2_with fail
  go_ret2
  exact ⟨rfl, rfl⟩
theorem spre_one (T U : ByteArray) (b : Bool) (w : World) (hu : U.size = 1) (ht : 1 ≤ T.size) (ht2 : T.size ≤ 1000) (hb : ((T.extract 0 1).toList == U.toList) = b) : Calls Tryz.prog 109 #[.string T, .string U] w fun e w' => e = .returned (.bool b) ∧ w = w' := by
  have hd : decide ((U.size : Int) ≤ (T.size : Int)) = true := by simp; omega
  have hd2 : U.size ≤ T.size := by omega
  subst hb
  go_enter Tryz.func109, Tryz.ntmps109
  go_wp2_with fail
  go_ret
  exact ⟨rfl, rfl⟩
theorem pre_one (T U : ByteArray) (b : Bool) (w : World) (hu : U.size = 1) (ht : 1 ≤ T.size) (ht2 : T.size ≤ 1000) (hb : ((T.extract 0 1).toList == U.toList) = b) : Calls Tryz.prog 84 #[.string T, .string U] w fun e w' => e = .returned (.bool b) ∧ w = w' := by
  have HC := Lib.hid (spre_one T U b w hu ht ht2 hb)
  clear hu ht ht2 hb
  go_enter Tryz.func84, Tryz.ntmps84
  go_wp2_with fail
  refine HC.out.mono ?_
  rintro e w' ⟨rfl, rfl⟩
  go_wp2_with fail
  go_ret
  exact ⟨rfl, rfl⟩
def nulls : ByteArray := { data := #[48, 48, 48, 48, 48, 48, 48, 48, 48, 48, 48, 48, 48, 48, 48, 48, 48, 48, 48, 48, 48, 48, 48, 48, 48, 48, 48, 48, 48, 48, 48, 48, 48, 48, 48, 48, 48, 48, 48, 48, 48, 48, 48, 48, 48, 48, 48, 48, 48, 48, 48, 48, 48, 48, 48, 48, 48, 48, 48, 48, 48, 48, 48, 48] }
theorem nulls_cutF : ∀ c : Fin 8, nulls.extract 0 c.val = ds (List.replicate c.val false) := by decide +kernel
set_option maxHeartbeats 2000000 in
theorem repeat_any (c : Nat) (w : World) (hc : c ≤ 7) : Calls Tryz.prog 61 #[.string { data := #[48] }, .int .i64 (c : Int)] w fun e w' => e = .returned (.string (ds (List.replicate c false))) ∧ w = w' := by
  by_cases h0 : c = 0
  · subst h0
    go_enter Tryz.func61, Tryz.ntmps61
    go_wp2_with fail
    go_ret
    exact ⟨rfl, rfl⟩
  by_cases h1 : c = 1
  · subst h1
    go_enter Tryz.func61, Tryz.ntmps61
    go_wp2_with fail
    go_ret
    exact ⟨rfl, rfl⟩
  have hd0 : ((c : Int) == 0) = false := by simp; omega
  have hd1 : ((c : Int) == 1) = false := by simp; omega
  have hcut : ({ data := #[48, 48, 48, 48, 48, 48, 48, 48, 48, 48, 48, 48, 48, 48, 48, 48, 48, 48, 48, 48, 48, 48, 48, 48, 48, 48, 48, 48, 48, 48, 48, 48, 48, 48, 48, 48, 48, 48, 48, 48, 48, 48, 48, 48, 48, 48, 48, 48, 48, 48, 48, 48, 48, 48, 48, 48, 48, 48, 48, 48, 48, 48, 48, 48] } : ByteArray).extract 0 c = ds (List.replicate c false) := nulls_cutF ⟨c, by omega⟩
  have HM := Lib.hid (mul_one_any c w hc)
  generalize ds (List.replicate c false) = R at *
  go_enter Tryz.func61, Tryz.ntmps61
  go_wp2_with fail
  refine HM.out.mono ?_
  rintro e w' ⟨rfl, rfl⟩
  go_wp2_with fail
  refine (pre_one _ _ false w (by kernel_rfl) (by decide +kernel) (by decide +kernel) (by decide +kernel)).mono ?_
  rintro e w' ⟨rfl, rfl⟩
  go_wp2_with fail
  refine (pre_one _ _ false w (by kernel_rfl) (by decide +kernel) (by decide +kernel) (by decide +kernel)).mono ?_
  rintro e w' ⟨rfl, rfl⟩
  go_wp2_with fail
  refine (pre_one _ _ true w (by kernel_rfl) (by decide +kernel) (by decide +kernel) (by decide +kernel)).mono ?_
  rintro e w' ⟨rfl, rfl⟩
  go_wp2_with fail
  go_ret
  exact ⟨rfl, rfl⟩
theorem fill_any (n : Nat) (w : World) (hn : n ≤ 2000000) : Calls Tryz.prog 62 #[.int .i64 (n : Int)] w fun e w' => e = .returned (.int .i64 (((8 - (n + 12) % 8) % 8 : Nat) : Int)) ∧ w = w' := by
  have h1 : ((n : Int) + 12).tmod 8 = (((n + 12) % 8 : Nat) : Int) := by rw [Int.tmod_eq_emod_of_nonneg (by omega)]; omega
  obtain ⟨m, hm⟩ : ∃ m, m = (n + 12) % 8 := ⟨_, rfl⟩
  have hm8 : m < 8 := by omega
  have h2 : ((8 : Int) - (m : Int)).tmod 8 = (((8 - m) % 8 : Nat) : Int) := by rw [Int.tmod_eq_emod_of_nonneg (by omega)]; omega
  rw [← hm] at h1 ⊢
  clear hm
  go_enter Tryz.func62, Tryz.ntmps62
  go_wp2_with fail
  go_ret
  exact ⟨rfl, rfl⟩
theorem right_any (two al ends : Bool) (every : Int) (w : World) : Calls Tryz.prog 8 #[.agg #[.bool two, .int .i64 every, .bool al, .bool ends]] w fun e w' => e = .returned (.bool (decide (1 ≤ every) || !two)) ∧ Below w.heap.size w w' := by
  by_cases h : 1 ≤ every
  · have hd : decide (1 ≤ every) = true := by simpa using h
    clear h
    rw [hd]
    go_enter Tryz.func8, Tryz.ntmps8
    go_wp2_with fail
    go_ret
    exact ⟨rfl, (Below.refl _ w).alloc (Nat.le_refl _) _⟩
  · have hd : decide (1 ≤ every) = false := by simpa using h
    clear h
    rw [hd]
    cases two <;>
    (go_enter Tryz.func8, Tryz.ntmps8
     go_wp2_with fail
     go_ret
     exact ⟨rfl, (Below.refl _ w).alloc (Nat.le_refl _) _⟩)
theorem gwidth_any (n : Int) (w : World) : Calls Tryz.prog 14 #[.int .i64 n] w fun e w' => e = .returned (.bool (decide (1 ≤ n ∧ n ≤ 32768))) ∧ w = w' := by
  by_cases h1 : 1 ≤ n
  · have hd : decide (1 ≤ n) = true := by simpa using h1
    have he : decide (1 ≤ n ∧ n ≤ 32768) = decide (n ≤ 32768) := by simp [h1]
    rw [he]
    go_enter Tryz.func14, Tryz.ntmps14
    go_wp2_with fail
    go_ret
    exact ⟨rfl, rfl⟩
  · have hd : decide (1 ≤ n) = false := by simpa using h1
    have he : decide (1 ≤ n ∧ n ≤ 32768) = false := by simp [h1]
    rw [he]
    go_enter Tryz.func14, Tryz.ntmps14
    go_wp2_with fail
    go_ret
    exact ⟨rfl, rfl⟩
theorem chg_white : ∀ (n : Nat) (k : Nat), Rn.chg false k (List.replicate n false) = []
  | 0, k => rfl
  | n + 1, k => by
    rw [List.replicate_succ, Rn.chg]
    first | exact chg_white n (k + 1) | (rw [if_pos rfl]; exact chg_white n (k + 1)) | simp [chg_white n (k + 1)]
theorem changes_white (n : Nat) : changes (List.replicate n false) = [] := chg_white n 0
end Go.Proofs.YtidicajedckaoaaGreatDoor.Gt
/- A page while it is written: its box; the end of a line. -/
namespace Go.Proofs.YtidicajedckaoaaGreatDoor.Gt
open Go.RowKit Go.Proofs.YtidicajedckaoaaGreatDoor.Oct Go.Proofs.YtidicajedckaoaaGreatDoor.Bit
open Go.Proofs.YtidicajedckaoaaGreatDoor.Fx (WrP eol CW)
open Go.Proofs.YtidicajedckaoaaGreatDoor.Mh (endF)
set_option linter.unusedVariables false
set_option linter.unusedSimpArgs false
set_option maxRecDepth 100000

/-- a page that is being written -/
def PgB (w : World) (gp gw c : Nat) (wd every : Int) (two al ends : Bool) : Prop :=
  w.heap[gp]? = some (.cells #[.pointer (some ⟨gw, 0, none⟩), .pointer (some ⟨c, 0, none⟩), .int .i64 wd, .bool two, .int .i64 every, .bool al, .bool ends] 53 (0, 0))
section
variable {w w' : World} {gp gw c : Nat} {wd every : Int} {two al ends : Bool}
theorem PgB.c0 (h : PgB w gp gw c wd every two al ends) : w.cell? ⟨gp, 0, none⟩ = some (.pointer (some ⟨gw, 0, none⟩)) := by rw [cell_of_row _ gp 0 _ _ _ h]; rfl
theorem PgB.c1 (h : PgB w gp gw c wd every two al ends) : w.cell? ⟨gp, 1, none⟩ = some (.pointer (some ⟨c, 0, none⟩)) := by rw [cell_of_row _ gp 1 _ _ _ h]; rfl
theorem PgB.c2 (h : PgB w gp gw c wd every two al ends) : w.cell? ⟨gp, 2, none⟩ = some (.int .i64 wd) := by rw [cell_of_row _ gp 2 _ _ _ h]; rfl
theorem PgB.c3 (h : PgB w gp gw c wd every two al ends) : w.cell? ⟨gp, 3, none⟩ = some (.bool two) := by rw [cell_of_row _ gp 3 _ _ _ h]; rfl
theorem PgB.c5 (h : PgB w gp gw c wd every two al ends) : w.cell? ⟨gp, 5, none⟩ = some (.bool al) := by rw [cell_of_row _ gp 5 _ _ _ h]; rfl
theorem PgB.lt (h : PgB w gp gw c wd every two al ends) : gp < w.heap.size := by
  rcases Nat.lt_or_ge gp w.heap.size with hlt | hge
  · exact hlt
  · rw [PgB, Array.getElem?_eq_none hge] at h; cases h
theorem PgB.only {S : Nat → Prop} (h : PgB w gp gw c wd every two al ends) (ho : Only S w w') (hS : ¬ S gp) : PgB w' gp gw c wd every two al ends := by
  have := ho.2.2.2.2 gp h.lt hS
  unfold PgB at *
  rw [this]
  exact h
end
/-- what the end of a line adds -/
def tailF (n : Nat) (two aligned single : Bool) : List Bool := List.replicate (if aligned then (8 - (n + 12) % 8) % 8 else 0) false ++ eol ++ (if two then [single] else [])
theorem endF_tail (l : List Bool) (two aligned single : Bool) : endF l two aligned single = l ++ tailF l.length two aligned single := by
  unfold endF tailF
  simp only [List.append_assoc]
theorem tailF_len (n : Nat) (two aligned single : Bool) : (tailF n two aligned single).length ≤ 20 := by
  unfold tailF
  rw [List.length_append, List.length_append, List.length_replicate, show eol.length = 12 from rfl]
  have h1 : (if two = true then [single] else []).length ≤ 1 := by cases two <;> simp
  have h2 : (if aligned = true then (8 - (n + 12) % 8) % 8 else 0) ≤ 7 := by split <;> omega
  omega
theorem eol_text : ({ data := #[48, 48, 48, 48, 48, 48, 48, 48, 48, 48, 48, 49] } : ByteArray) = ds eol := by decide +kernel
theorem one_text : ({ data := #[49] } : ByteArray) = ds [true] := by decide +kernel
theorem nought_text : ({ data := #[48] } : ByteArray) = ds [false] := by decide +kernel
set_option maxHeartbeats 4000000 in
theorem endLine_any (w : World) (gp gw c : Nat) (wd every : Int) (two a1 ends al single : Bool) (v : Value) (l : List Bool) (hP : PgB w gp gw c wd every two a1 ends) (hW : Ws w gw v l false) (hl : l.length ≤ 1900000) :
    Calls Tryz.prog 36 #[.pointer (some ⟨gp, 0, none⟩), .bool al, .bool single] w (WrP w gw v l (tailF l.length two al single) false) := by
  have c0 := hP.c0
  have c3 := hP.c3
  have hlen := len_any w gw v l false hW
  have hz1 : ({ data := #[48, 48, 48, 48, 48, 48, 48, 48, 48, 48, 48, 49] } : ByteArray).size = 12 := rfl
  have hz2 : ({ data := #[49] } : ByteArray).size = 1 := rfl
  have hz3 : ({ data := #[48] } : ByteArray).size = 1 := rfl
  cases al
  · have key : ∀ m, m.length ≤ 1 → Calls Tryz.prog 64 #[.pointer (some ⟨gw, 0, none⟩), .string (ds eol ++ ds m)] w (WordP w gw v l (eol ++ m) false) := fun m hm => by
      rw [ds_append]
      exact word_any w gw v l (eol ++ m) false (by rw [List.length_append, show eol.length = 12 from rfl]; omega) hW
    have key0 : Calls Tryz.prog 64 #[.pointer (some ⟨gw, 0, none⟩), .string (ds eol)] w (WordP w gw v l eol false) := word_any w gw v l eol false (by rw [show eol.length = 12 from rfl]; omega) hW
    rw [← eol_text] at key key0
    have k1 := key [true] (by simp)
    have k2 := key [false] (by simp)
    rw [← one_text] at k1
    rw [← nought_text] at k2
    have K0 := Lib.hid key0
    have K1 := Lib.hid k1
    have K2 := Lib.hid k2
    clear key key0 k1 k2 hW hP hlen hl
    cases two
    · go_enter Tryz.func36, Tryz.ntmps36
      go_wp2_with fail
      refine K0.out.mono ?_
      rintro e w1 ⟨rfl, hT⟩
      go_wp2_with fail
      go_ret
      refine ⟨rfl, ?_⟩
      rw [show tailF l.length false false single = eol from by cases single <;> rfl]
      exact hT
    · cases single
      · go_enter Tryz.func36, Tryz.ntmps36
        go_wp2_with fail
        refine K2.out.mono ?_
        rintro e w1 ⟨rfl, hT⟩
        go_wp2_with fail
        go_ret
        exact ⟨rfl, hT⟩
      · go_enter Tryz.func36, Tryz.ntmps36
        go_wp2_with fail
        refine K1.out.mono ?_
        rintro e w1 ⟨rfl, hT⟩
        go_wp2_with fail
        go_ret
        exact ⟨rfl, hT⟩
  · obtain ⟨k, hk⟩ : ∃ k, k = (8 - (l.length + 12) % 8) % 8 := ⟨_, rfl⟩
    have hk7 : k ≤ 7 := by omega
    have HF := Lib.hid (fill_any l.length w (by omega))
    rw [← hk] at HF
    have HR := Lib.hid (repeat_any k w hk7)
    have HL := Lib.hid hlen
    have hzr := ds_size (List.replicate k false)
    rw [List.length_replicate] at hzr
    have hza := ByteArray.size_append (a := ds (List.replicate k false)) (b := { data := #[48, 48, 48, 48, 48, 48, 48, 48, 48, 48, 48, 49] })
    have key : ∀ m, m.length ≤ 1 → Calls Tryz.prog 64 #[.pointer (some ⟨gw, 0, none⟩), .string (ds (List.replicate k false) ++ ds eol ++ ds m)] w (WordP w gw v l (List.replicate k false ++ eol ++ m) false) := fun m hm => by
      rw [ds_append, ds_append]
      exact word_any w gw v l _ false (by rw [List.length_append, List.length_append, List.length_replicate, show eol.length = 12 from rfl]; omega) hW
    have key0 : Calls Tryz.prog 64 #[.pointer (some ⟨gw, 0, none⟩), .string (ds (List.replicate k false) ++ ds eol)] w (WordP w gw v l (List.replicate k false ++ eol) false) := by
      rw [ds_append]
      exact word_any w gw v l _ false (by rw [List.length_append, List.length_replicate, show eol.length = 12 from rfl]; omega) hW
    rw [← eol_text] at key key0
    have k1 := key [true] (by simp)
    have k2 := key [false] (by simp)
    rw [← one_text] at k1
    rw [← nought_text] at k2
    have K0 := Lib.hid key0
    have K1 := Lib.hid k1
    have K2 := Lib.hid k2
    have HT : Hid (∀ single, tailF l.length two true single = List.replicate k false ++ eol ++ (if two then [single] else [])) := Lib.hid (fun single => by rw [hk]; rfl)
    generalize ds (List.replicate k false) = R at *
    generalize hLn : l.length = n at *
    clear key key0 k1 k2 hW hP hlen hl hk
    cases two
    · go_enter Tryz.func36, Tryz.ntmps36
      go_wp2_with fail
      refine HL.out.mono ?_
      rintro e w1 ⟨rfl, rfl⟩
      go_wp2_with fail
      refine HF.out.mono ?_
      rintro e w1 ⟨rfl, rfl⟩
      go_wp2_with fail
      refine HR.out.mono ?_
      rintro e w1 ⟨rfl, rfl⟩
      go_wp2_with fail
      refine K0.out.mono ?_
      rintro e w1 ⟨rfl, hT⟩
      go_wp2_with fail
      go_ret
      refine ⟨rfl, ?_⟩
      rw [HT.out single]
      simpa using hT
    · cases single
      · go_enter Tryz.func36, Tryz.ntmps36
        go_wp2_with fail
        refine HL.out.mono ?_
        rintro e w1 ⟨rfl, rfl⟩
        go_wp2_with fail
        refine HF.out.mono ?_
        rintro e w1 ⟨rfl, rfl⟩
        go_wp2_with fail
        refine HR.out.mono ?_
        rintro e w1 ⟨rfl, rfl⟩
        go_wp2_with fail
        refine K2.out.mono ?_
        rintro e w1 ⟨rfl, hT⟩
        go_wp2_with fail
        go_ret
        exact ⟨rfl, by rw [HT.out false]; simpa using hT⟩
      · go_enter Tryz.func36, Tryz.ntmps36
        go_wp2_with fail
        refine HL.out.mono ?_
        rintro e w1 ⟨rfl, rfl⟩
        go_wp2_with fail
        refine HF.out.mono ?_
        rintro e w1 ⟨rfl, rfl⟩
        go_wp2_with fail
        refine HR.out.mono ?_
        rintro e w1 ⟨rfl, rfl⟩
        go_wp2_with fail
        refine K1.out.mono ?_
        rintro e w1 ⟨rfl, hT⟩
        go_wp2_with fail
        go_ret
        exact ⟨rfl, by rw [HT.out true]; simpa using hT⟩
end Go.Proofs.YtidicajedckaoaaGreatDoor.Gt
/- A line of a page is written. -/
namespace Go.Proofs.YtidicajedckaoaaGreatDoor.Gt
open Go.RowKit Go.Proofs.YtidicajedckaoaaGreatDoor.Oct Go.Proofs.YtidicajedckaoaaGreatDoor.Bit
open Go.Proofs.YtidicajedckaoaaGreatDoor.Fx (WrP eol CW Cd OutW)
open Go.Proofs.YtidicajedckaoaaGreatDoor.Mh (endF rowC againstA Apt writeRow_any writeAgainst_any rowF)
open Go.Proofs.YtidicajedckaoaaGreatDoor.Rn (changes zl zl_length Valid)
open Go.Proofs.YtidicajedckaoaaGreatDoor.Lp (VRow ints ints_length)
set_option linter.unusedVariables false
set_option linter.unusedSimpArgs false
set_option maxRecDepth 100000

/-- a row behind the end of a line, by places -/
def lineC (single : Bool) (wd : Nat) (top row : List Nat) : List Bool := if single then rowC row wd else againstA row top wd 0 false
theorem lineF_C (single : Bool) {wd : Nat} {above X : List Bool} (hX : X.length = wd) : lineF single wd above X = lineC single wd (changes above) (changes X) := by
  subst hX
  cases single <;> rfl
theorem wst_drew {w w' : World} {gw : Nat} {v : Value} {l : List Bool} (h : WsT w.drew gw v l false w') : WsT w gw v l false w' := by
  obtain ⟨v2, h1, h2, h3⟩ := h
  exact ⟨v2, h1, (Only.drawn _ (show Drawn w w.drew from ⟨1, rfl⟩)).trans h2, h3⟩
theorem drew_below (w : World) : Below w.heap.size w w.drew := (show Drawn w w.drew from ⟨1, rfl⟩).below _
set_option maxHeartbeats 4000000 in
theorem writeLine_any (D : Nat) (W0 w : World) (B C gp gw c wd : Nat) (every : Int) (two al ends single : Bool) (v : Value) (l : List Bool) (p1 : Option Addr) (m1 c1 : Nat) (row : List Nat) (p2 : Option Addr) (m2 c2 : Nat) (top : List Nat) (hCW : CW D W0 B C c gw v l false w) (hP : PgB w gp gw c (wd : Int) every two al ends) (hm : ¬ Mine gw v gp)
    (hA1 : Apt w gw v p1 m1 c1 row) (hA2 : Apt w gw v p2 m2 c2 top) (hv1 : Valid row wd) (hv2 : Valid top wd) (h1 : 1 ≤ wd) (hn : wd ≤ 32768) (hl1 : m1 ≤ 1000) (hl2 : m2 ≤ 1000) (hl : l.length + (lineC single wd top row).length ≤ 1650000) (hl3 : l.length + 200 * (m1 + 1) ≤ 1650000) :
    Calls Tryz.prog 17 #[.pointer (some ⟨gp, 0, none⟩), .slice p1 m1 c1, .slice p2 m2 c2, .bool single] w (WrP w gw v l (tailF l.length two al single ++ lineC single wd top row) false) := by
  have c5 := hP.c5
  have HE := Lib.hid (endLine_any w gp gw c wd every two al ends al single v l hP hCW.ws (by omega))
  have HCW := Lib.hid hCW
  have HP := Lib.hid hP
  have HM := Lib.hid hm
  have HA1 := Lib.hid hA1
  have HA2 := Lib.hid hA2
  have HV1 := Lib.hid hv1
  have HV2 := Lib.hid hv2
  have htl := tailF_len l.length two al single
  have HTL := Lib.hid htl
  clear hCW hP hm hA1 hA2 hv1 hv2 htl
  cases single
  · have hl4 : l.length + (againstA row top wd 0 false).length ≤ 1650000 := hl
    have HL4 := Lib.hid hl4
    clear hl hl4
    go_enter Tryz.func17, Tryz.ntmps17
    go_wp2_with fail
    refine HE.out.mono ?_
    rintro e w1 ⟨rfl, hT⟩
    obtain ⟨v1, hW1, ho1, hd1⟩ := hT
    have hP1 := HP.out.only ho1 HM.out
    have hCW1 := Mh.CW.wrote2 HCW.out hW1 ho1 hd1
    have hA11 := HA1.out.wrote ho1 hd1
    have hA21 := HA2.out.wrote ho1 hd1
    have HWR := Lib.hid (writeAgainst_any w1.drew B C c gw v1 (l ++ tailF l.length two al false) false p1 m1 c1 row p2 m2 c2 top wd (hCW1.more (drew_below w1)).cd (hCW1.more (drew_below w1)).ws hCW1.out (hA11.more (drew_below w1)).1 hA11.2.1 (by omega) hA11.2.2.1 hA11.2.2.2 HV1.out (hA21.more (drew_below w1)).1 hA21.2.1 (by omega) hA21.2.2.1 hA21.2.2.2 HV2.out h1 hn (by rw [List.length_append]; have := HTL.out; have := HL4.out; omega))
    have k0 : w1.drew.cell? ⟨gp, 0, none⟩ = some (.pointer (some ⟨gw, 0, none⟩)) := hP1.c0
    have k1 : w1.drew.cell? ⟨gp, 1, none⟩ = some (.pointer (some ⟨c, 0, none⟩)) := hP1.c1
    have k2 : w1.drew.cell? ⟨gp, 2, none⟩ = some (.int .i64 (wd : Int)) := hP1.c2
    have HPD : Hid (PgB w1.drew gp gw c (wd : Int) every two al ends) := Lib.hid hP1
    have HMD : Hid (¬ Mine gw v1 gp) := Lib.hid (fun hh => by
      rcases hh with e | e
      · exact HM.out (.inl e)
      · rcases hd1 _ e with e2 | e2
        · exact HM.out (.inr e2)
        · have := HP.out.lt; omega)
    have HO1 := Lib.hid ho1
    have HD1 := Lib.hid hd1
    clear hW1 ho1 hd1 hP1 hCW1 hA11 hA21 c5
    go_wp2_with fail
    refine wp_region_held_drew (S := fun w' => w'.cell? ⟨gp, 0, none⟩ = some (.pointer (some ⟨gw, 0, none⟩)) ∧ w'.cell? ⟨gp, 1, none⟩ = some (.pointer (some ⟨c, 0, none⟩)) ∧ w'.cell? ⟨gp, 2, none⟩ = some (.int .i64 (wd : Int))) (by kernel_rfl) ⟨k0, k1, k2⟩ (fun hHeld => ?_)
    refine wpAnyH_take (i := 0) (v := ?v1) rfl (by kernel_rfl) (by kernel_rfl) (by kernel_rfl) (fun _ _ _ h => h) (Or.inl ⟨by rfl, fun w hSw => ?y1⟩) hHeld ?r1
    case y1 => (try dsimp only at hSw); first | (go_simp; done) | (go_simp; with_reducible rfl)
    try simp only [Act.put, List.setIfInBounds_toArray, List.set_cons_zero, List.set_cons_succ, List.getElem_toArray, List.getElem_cons_zero, List.getElem_cons_succ]
    refine wpAnyH_take (i := 1) (v := ?v2) rfl (by kernel_rfl) (by kernel_rfl) (by kernel_rfl) (fun _ _ _ h => h) (Or.inl ⟨by rfl, fun w hSw => ?y2⟩) hHeld ?r2
    case y2 => (try dsimp only at hSw); first | (go_simp; done) | (go_simp; with_reducible rfl)
    try simp only [Act.put, List.setIfInBounds_toArray, List.set_cons_zero, List.set_cons_succ, List.getElem_toArray, List.getElem_cons_zero, List.getElem_cons_succ]
    refine wpAnyH_take (i := 2) (v := ?v3) rfl (by kernel_rfl) (by kernel_rfl) (by kernel_rfl) (fun _ _ _ h => h) (Or.inl ⟨by rfl, fun w hSw => ?y3⟩) hHeld ?r3
    case y3 => (try dsimp only at hSw); first | (go_simp; done) | (go_simp; with_reducible rfl)
    try simp only [Act.put, List.setIfInBounds_toArray, List.set_cons_zero, List.set_cons_succ, List.getElem_toArray, List.getElem_cons_zero, List.getElem_cons_succ]
    refine wpAnyH_take (i := 3) (v := ?v4) rfl (by kernel_rfl) (by kernel_rfl) (by kernel_rfl) (fun _ _ _ h => h) (Or.inl ⟨by rfl, fun w hSw => ?y4⟩) hHeld ?r4
    case y4 => (try dsimp only at hSw); first | (go_simp; done) | (go_simp; with_reducible rfl)
    try simp only [Act.put, List.setIfInBounds_toArray, List.set_cons_zero, List.set_cons_succ, List.getElem_toArray, List.getElem_cons_zero, List.getElem_cons_succ]
    refine wpAnyH_take (i := 4) (v := ?v5) rfl (by kernel_rfl) (by kernel_rfl) (by kernel_rfl) (fun _ _ _ h => h) (Or.inl ⟨by rfl, fun w hSw => ?y5⟩) hHeld ?r5
    case y5 => (try dsimp only at hSw); first | (go_simp; done) | (go_simp; with_reducible rfl)
    try simp only [Act.put, List.setIfInBounds_toArray, List.set_cons_zero, List.set_cons_succ, List.getElem_toArray, List.getElem_cons_zero, List.getElem_cons_succ]
    refine wpAnyH_take (i := 5) (v := ?v6) rfl (by kernel_rfl) (by kernel_rfl) (by kernel_rfl) (fun _ _ _ h => h) (Or.inl ⟨by rfl, fun w hSw => ?y6⟩) hHeld ?r6
    case y6 => (try dsimp only at hSw); first | (go_simp; done) | (go_simp; with_reducible rfl)
    try simp only [Act.put, List.setIfInBounds_toArray, List.set_cons_zero, List.set_cons_succ, List.getElem_toArray, List.getElem_cons_zero, List.getElem_cons_succ]
    refine wpAnyH_take (i := 6) (v := ?v7) rfl (by kernel_rfl) (by kernel_rfl) (by kernel_rfl) (fun _ _ _ h => h) (Or.inl ⟨by rfl, fun w hSw => ?y7⟩) hHeld ?r7
    case y7 => (try dsimp only at hSw); first | (go_simp; done) | (go_simp; with_reducible rfl)
    try simp only [Act.put, List.setIfInBounds_toArray, List.set_cons_zero, List.set_cons_succ, List.getElem_toArray, List.getElem_cons_zero, List.getElem_cons_succ]
    refine wpAnyH_take (i := 7) (v := ?v8) rfl (by kernel_rfl) (by kernel_rfl) (by kernel_rfl) (fun _ _ _ h => h) (Or.inl ⟨by rfl, fun w hSw => ?y8⟩) hHeld ?r8
    case y8 => (try dsimp only at hSw); first | (go_simp; done) | (go_simp; with_reducible rfl)
    try simp only [Act.put, List.setIfInBounds_toArray, List.set_cons_zero, List.set_cons_succ, List.getElem_toArray, List.getElem_cons_zero, List.getElem_cons_succ]
    refine wpAnyH_take (i := 8) (v := ?v9) rfl (by kernel_rfl) (by kernel_rfl) (by kernel_rfl) (fun _ _ _ h => h) (Or.inl ⟨by rfl, fun w hSw => ?y9⟩) hHeld ?r9
    case y9 => (try dsimp only at hSw); first | (go_simp; done) | (go_simp; with_reducible rfl)
    try simp only [Act.put, List.setIfInBounds_toArray, List.set_cons_zero, List.set_cons_succ, List.getElem_toArray, List.getElem_cons_zero, List.getElem_cons_succ]
    refine wpAnyH_take (i := 9) (v := ?v10) rfl (by kernel_rfl) (by kernel_rfl) (by kernel_rfl) (fun _ _ _ h => h) (Or.inl ⟨by rfl, fun w hSw => ?y10⟩) hHeld ?r10
    case y10 => (try dsimp only at hSw); first | (go_simp; done) | (go_simp; with_reducible rfl)
    try simp only [Act.put, List.setIfInBounds_toArray, List.set_cons_zero, List.set_cons_succ, List.getElem_toArray, List.getElem_cons_zero, List.getElem_cons_succ]
    refine wpAnyH_take (i := 10) (v := ?v11) rfl (by kernel_rfl) (by kernel_rfl) (by kernel_rfl) (fun _ _ _ h => h) (Or.inl ⟨by rfl, fun w hSw => ?y11⟩) hHeld ?r11
    case y11 => (try dsimp only at hSw); first | (go_simp; done) | (go_simp; with_reducible rfl)
    try simp only [Act.put, List.setIfInBounds_toArray, List.set_cons_zero, List.set_cons_succ, List.getElem_toArray, List.getElem_cons_zero, List.getElem_cons_succ]
    refine wpAnyH_take (i := 11) (v := ?v12) rfl (by kernel_rfl) (by kernel_rfl) (by kernel_rfl) (fun _ _ _ h => h) (Or.inl ⟨by rfl, fun w hSw => ?y12⟩) hHeld ?r12
    case y12 => (try dsimp only at hSw); first | (go_simp; done) | (go_simp; with_reducible rfl)
    try simp only [Act.put, List.setIfInBounds_toArray, List.set_cons_zero, List.set_cons_succ, List.getElem_toArray, List.getElem_cons_zero, List.getElem_cons_succ]
    refine wpAnyH_take (i := 12) (v := ?v13) rfl (by kernel_rfl) (by kernel_rfl) (by kernel_rfl) (fun _ _ _ h => h) (Or.inl ⟨by rfl, fun w hSw => ?y13⟩) hHeld ?r13
    case y13 => (try dsimp only at hSw); first | (go_simp; done) | (go_simp; with_reducible rfl)
    try simp only [Act.put, List.setIfInBounds_toArray, List.set_cons_zero, List.set_cons_succ, List.getElem_toArray, List.getElem_cons_zero, List.getElem_cons_succ]
    refine wpAnyH_take (i := 13) (v := ?v14) rfl (by kernel_rfl) (by kernel_rfl) (by kernel_rfl) (fun _ _ _ h => h) (Or.inl ⟨by rfl, fun w hSw => ?y14⟩) hHeld ?r14
    case y14 => (try dsimp only at hSw); first | (go_simp; done) | (go_simp; with_reducible rfl)
    try simp only [Act.put, List.setIfInBounds_toArray, List.set_cons_zero, List.set_cons_succ, List.getElem_toArray, List.getElem_cons_zero, List.getElem_cons_succ]
    refine wpAnyH_ready (rs := [14]) (by kernel_rfl) (by simp) ?_
    refine AllReadyH.cons rfl (fun K hK => ?_) AllReadyH.nil
    go_simp
    refine HWR.out.mono ?_
    rintro e w2 ⟨rfl, hT2⟩
    have HT2 := Lib.hid hT2
    have HS2 : Hid (w2.cell? ⟨gp, 0, none⟩ = some (.pointer (some ⟨gw, 0, none⟩)) ∧ w2.cell? ⟨gp, 1, none⟩ = some (.pointer (some ⟨c, 0, none⟩)) ∧ w2.cell? ⟨gp, 2, none⟩ = some (.int .i64 (wd : Int))) := Lib.hid (by
      obtain ⟨v2, hW2, ho2, hd2⟩ := hT2
      have hP2 := HPD.out.only ho2 HMD.out
      exact ⟨hP2.c0, hP2.c1, hP2.c2⟩)
    clear hT2
    go_wp2_with fail
    refine hK.out _ _ HS2.out (fun hHeld2 => ?_)
    clear hK K
    try simp only [Act.put, List.setIfInBounds_toArray, List.set_cons_zero, List.set_cons_succ, List.getElem_toArray, List.getElem_cons_zero, List.getElem_cons_succ]
    refine wpAnyH_take (i := 15) (v := ?v15) rfl (by kernel_rfl) (by kernel_rfl) (by kernel_rfl) (fun _ _ _ h => h) (Or.inl ⟨by rfl, fun w hSw => ?y15⟩) hHeld2 ?r15
    case y15 => (try dsimp only at hSw); first | (go_simp; done) | (go_simp; with_reducible rfl)
    try simp only [Act.put, List.setIfInBounds_toArray, List.set_cons_zero, List.set_cons_succ, List.getElem_toArray, List.getElem_cons_zero, List.getElem_cons_succ]
    refine wpAnyH_done (by kernel_rfl) ?_ _
    clear hHeld hHeld2 k0 k1 k2 HS2 HWR
    go_wp2_with fail
    go_ret
    refine ⟨rfl, ?_⟩
    have h := WrT.more HO1.out HD1.out (wst_drew HT2.out)
    rw [List.append_assoc] at h
    exact h
  · clear hl
    go_enter Tryz.func17, Tryz.ntmps17
    go_wp2_with fail
    refine HE.out.mono ?_
    rintro e w1 ⟨rfl, hT⟩
    obtain ⟨v1, hW1, ho1, hd1⟩ := hT
    have hP1 := HP.out.only ho1 HM.out
    have hCW1 := Mh.CW.wrote2 HCW.out hW1 ho1 hd1
    have hA11 := HA1.out.wrote ho1 hd1
    have hA21 := HA2.out.wrote ho1 hd1
    have HWR := Lib.hid (writeRow_any w1.drew B C c gw v1 (l ++ tailF l.length two al true) false p1 m1 c1 row wd (hCW1.more (drew_below w1)).cd (hCW1.more (drew_below w1)).ws hCW1.out (hA11.more (drew_below w1)).1 hA11.2.1 HV1.out h1 hn (by rw [List.length_append]; have := HTL.out; omega))
    have k0 : w1.drew.cell? ⟨gp, 0, none⟩ = some (.pointer (some ⟨gw, 0, none⟩)) := hP1.c0
    have k1 : w1.drew.cell? ⟨gp, 1, none⟩ = some (.pointer (some ⟨c, 0, none⟩)) := hP1.c1
    have k2 : w1.drew.cell? ⟨gp, 2, none⟩ = some (.int .i64 (wd : Int)) := hP1.c2
    have HPD : Hid (PgB w1.drew gp gw c (wd : Int) every two al ends) := Lib.hid hP1
    have HMD : Hid (¬ Mine gw v1 gp) := Lib.hid (fun hh => by
      rcases hh with e | e
      · exact HM.out (.inl e)
      · rcases hd1 _ e with e2 | e2
        · exact HM.out (.inr e2)
        · have := HP.out.lt; omega)
    have HO1 := Lib.hid ho1
    have HD1 := Lib.hid hd1
    clear hW1 ho1 hd1 hP1 hCW1 hA11 hA21 c5
    go_wp2_with fail
    refine wp_region_held_drew (S := fun w' => w'.cell? ⟨gp, 0, none⟩ = some (.pointer (some ⟨gw, 0, none⟩)) ∧ w'.cell? ⟨gp, 1, none⟩ = some (.pointer (some ⟨c, 0, none⟩)) ∧ w'.cell? ⟨gp, 2, none⟩ = some (.int .i64 (wd : Int))) (by kernel_rfl) ⟨k0, k1, k2⟩ (fun hHeld => ?_)
    refine wpAnyH_take (i := 0) (v := ?v16) rfl (by kernel_rfl) (by kernel_rfl) (by kernel_rfl) (fun _ _ _ h => h) (Or.inl ⟨by rfl, fun w hSw => ?y16⟩) hHeld ?r16
    case y16 => (try dsimp only at hSw); first | (go_simp; done) | (go_simp; with_reducible rfl)
    try simp only [Act.put, List.setIfInBounds_toArray, List.set_cons_zero, List.set_cons_succ, List.getElem_toArray, List.getElem_cons_zero, List.getElem_cons_succ]
    refine wpAnyH_take (i := 1) (v := ?v17) rfl (by kernel_rfl) (by kernel_rfl) (by kernel_rfl) (fun _ _ _ h => h) (Or.inl ⟨by rfl, fun w hSw => ?y17⟩) hHeld ?r17
    case y17 => (try dsimp only at hSw); first | (go_simp; done) | (go_simp; with_reducible rfl)
    try simp only [Act.put, List.setIfInBounds_toArray, List.set_cons_zero, List.set_cons_succ, List.getElem_toArray, List.getElem_cons_zero, List.getElem_cons_succ]
    refine wpAnyH_take (i := 2) (v := ?v18) rfl (by kernel_rfl) (by kernel_rfl) (by kernel_rfl) (fun _ _ _ h => h) (Or.inl ⟨by rfl, fun w hSw => ?y18⟩) hHeld ?r18
    case y18 => (try dsimp only at hSw); first | (go_simp; done) | (go_simp; with_reducible rfl)
    try simp only [Act.put, List.setIfInBounds_toArray, List.set_cons_zero, List.set_cons_succ, List.getElem_toArray, List.getElem_cons_zero, List.getElem_cons_succ]
    refine wpAnyH_take (i := 3) (v := ?v19) rfl (by kernel_rfl) (by kernel_rfl) (by kernel_rfl) (fun _ _ _ h => h) (Or.inl ⟨by rfl, fun w hSw => ?y19⟩) hHeld ?r19
    case y19 => (try dsimp only at hSw); first | (go_simp; done) | (go_simp; with_reducible rfl)
    try simp only [Act.put, List.setIfInBounds_toArray, List.set_cons_zero, List.set_cons_succ, List.getElem_toArray, List.getElem_cons_zero, List.getElem_cons_succ]
    refine wpAnyH_take (i := 4) (v := ?v20) rfl (by kernel_rfl) (by kernel_rfl) (by kernel_rfl) (fun _ _ _ h => h) (Or.inl ⟨by rfl, fun w hSw => ?y20⟩) hHeld ?r20
    case y20 => (try dsimp only at hSw); first | (go_simp; done) | (go_simp; with_reducible rfl)
    try simp only [Act.put, List.setIfInBounds_toArray, List.set_cons_zero, List.set_cons_succ, List.getElem_toArray, List.getElem_cons_zero, List.getElem_cons_succ]
    refine wpAnyH_take (i := 5) (v := ?v21) rfl (by kernel_rfl) (by kernel_rfl) (by kernel_rfl) (fun _ _ _ h => h) (Or.inl ⟨by rfl, fun w hSw => ?y21⟩) hHeld ?r21
    case y21 => (try dsimp only at hSw); first | (go_simp; done) | (go_simp; with_reducible rfl)
    try simp only [Act.put, List.setIfInBounds_toArray, List.set_cons_zero, List.set_cons_succ, List.getElem_toArray, List.getElem_cons_zero, List.getElem_cons_succ]
    refine wpAnyH_take (i := 6) (v := ?v22) rfl (by kernel_rfl) (by kernel_rfl) (by kernel_rfl) (fun _ _ _ h => h) (Or.inl ⟨by rfl, fun w hSw => ?y22⟩) hHeld ?r22
    case y22 => (try dsimp only at hSw); first | (go_simp; done) | (go_simp; with_reducible rfl)
    try simp only [Act.put, List.setIfInBounds_toArray, List.set_cons_zero, List.set_cons_succ, List.getElem_toArray, List.getElem_cons_zero, List.getElem_cons_succ]
    refine wpAnyH_take (i := 7) (v := ?v23) rfl (by kernel_rfl) (by kernel_rfl) (by kernel_rfl) (fun _ _ _ h => h) (Or.inl ⟨by rfl, fun w hSw => ?y23⟩) hHeld ?r23
    case y23 => (try dsimp only at hSw); first | (go_simp; done) | (go_simp; with_reducible rfl)
    try simp only [Act.put, List.setIfInBounds_toArray, List.set_cons_zero, List.set_cons_succ, List.getElem_toArray, List.getElem_cons_zero, List.getElem_cons_succ]
    refine wpAnyH_take (i := 8) (v := ?v24) rfl (by kernel_rfl) (by kernel_rfl) (by kernel_rfl) (fun _ _ _ h => h) (Or.inl ⟨by rfl, fun w hSw => ?y24⟩) hHeld ?r24
    case y24 => (try dsimp only at hSw); first | (go_simp; done) | (go_simp; with_reducible rfl)
    try simp only [Act.put, List.setIfInBounds_toArray, List.set_cons_zero, List.set_cons_succ, List.getElem_toArray, List.getElem_cons_zero, List.getElem_cons_succ]
    refine wpAnyH_take (i := 9) (v := ?v25) rfl (by kernel_rfl) (by kernel_rfl) (by kernel_rfl) (fun _ _ _ h => h) (Or.inl ⟨by rfl, fun w hSw => ?y25⟩) hHeld ?r25
    case y25 => (try dsimp only at hSw); first | (go_simp; done) | (go_simp; with_reducible rfl)
    try simp only [Act.put, List.setIfInBounds_toArray, List.set_cons_zero, List.set_cons_succ, List.getElem_toArray, List.getElem_cons_zero, List.getElem_cons_succ]
    refine wpAnyH_take (i := 10) (v := ?v26) rfl (by kernel_rfl) (by kernel_rfl) (by kernel_rfl) (fun _ _ _ h => h) (Or.inl ⟨by rfl, fun w hSw => ?y26⟩) hHeld ?r26
    case y26 => (try dsimp only at hSw); first | (go_simp; done) | (go_simp; with_reducible rfl)
    try simp only [Act.put, List.setIfInBounds_toArray, List.set_cons_zero, List.set_cons_succ, List.getElem_toArray, List.getElem_cons_zero, List.getElem_cons_succ]
    refine wpAnyH_take (i := 11) (v := ?v27) rfl (by kernel_rfl) (by kernel_rfl) (by kernel_rfl) (fun _ _ _ h => h) (Or.inl ⟨by rfl, fun w hSw => ?y27⟩) hHeld ?r27
    case y27 => (try dsimp only at hSw); first | (go_simp; done) | (go_simp; with_reducible rfl)
    try simp only [Act.put, List.setIfInBounds_toArray, List.set_cons_zero, List.set_cons_succ, List.getElem_toArray, List.getElem_cons_zero, List.getElem_cons_succ]
    refine wpAnyH_take (i := 12) (v := ?v28) rfl (by kernel_rfl) (by kernel_rfl) (by kernel_rfl) (fun _ _ _ h => h) (Or.inl ⟨by rfl, fun w hSw => ?y28⟩) hHeld ?r28
    case y28 => (try dsimp only at hSw); first | (go_simp; done) | (go_simp; with_reducible rfl)
    try simp only [Act.put, List.setIfInBounds_toArray, List.set_cons_zero, List.set_cons_succ, List.getElem_toArray, List.getElem_cons_zero, List.getElem_cons_succ]
    refine wpAnyH_ready (rs := [13]) (by kernel_rfl) (by simp) ?_
    refine AllReadyH.cons rfl (fun K hK => ?_) AllReadyH.nil
    go_simp
    refine HWR.out.mono ?_
    rintro e w2 ⟨rfl, hT2⟩
    have HT2 := Lib.hid hT2
    have HS2 : Hid (w2.cell? ⟨gp, 0, none⟩ = some (.pointer (some ⟨gw, 0, none⟩)) ∧ w2.cell? ⟨gp, 1, none⟩ = some (.pointer (some ⟨c, 0, none⟩)) ∧ w2.cell? ⟨gp, 2, none⟩ = some (.int .i64 (wd : Int))) := Lib.hid (by
      obtain ⟨v2, hW2, ho2, hd2⟩ := hT2
      have hP2 := HPD.out.only ho2 HMD.out
      exact ⟨hP2.c0, hP2.c1, hP2.c2⟩)
    clear hT2
    go_wp2_with fail
    refine hK.out _ _ HS2.out (fun hHeld2 => ?_)
    clear hK K
    try simp only [Act.put, List.setIfInBounds_toArray, List.set_cons_zero, List.set_cons_succ, List.getElem_toArray, List.getElem_cons_zero, List.getElem_cons_succ]
    refine wpAnyH_take (i := 14) (v := ?v29) rfl (by kernel_rfl) (by kernel_rfl) (by kernel_rfl) (fun _ _ _ h => h) (Or.inl ⟨by rfl, fun w hSw => ?y29⟩) hHeld2 ?r29
    case y29 => (try dsimp only at hSw); first | (go_simp; done) | (go_simp; with_reducible rfl)
    try simp only [Act.put, List.setIfInBounds_toArray, List.set_cons_zero, List.set_cons_succ, List.getElem_toArray, List.getElem_cons_zero, List.getElem_cons_succ]
    refine wpAnyH_done (by kernel_rfl) ?_ _
    clear hHeld hHeld2 k0 k1 k2 HS2 HWR
    go_wp2_with fail
    go_ret
    refine ⟨rfl, ?_⟩
    have h := WrT.more HO1.out HD1.out (wst_drew HT2.out)
    rw [List.append_assoc] at h
    exact h
end Go.Proofs.YtidicajedckaoaaGreatDoor.Gt
