/- DgJ: merged. -/
import Derived.Laws.BitsAllLaws
import Derived.Laws.Strings
import Derived.Laws.BytesArg
import Derived.Test.YtjafcjnkefioeaaGreatRows
import Derived.WalkKit
import Derived.ProofKit
import Derived.WalkLawsBesides
import Derived.Lib.Hide
import Derived.Deep.QuietTactic
import Derived.BigQuiet
import Derived.Outline
import Derived.Laws.NewBlocks
import Derived.Laws.CopyOwn
import Derived.Laws.Concat
import Derived.Laws.Strings2
import Derived.WalkSpells
import Derived.Laws.AppendOwnNone
import Derived.OpenShut
import Derived.Lib.SliceRun
import Derived.ChangeKeysEq
import Derived.Laws.Pointers
import Derived.Deep.AppendLies
import Derived.Deep.RegionHeld3
import Derived.Laws.Externs
import Derived.Laws.IdiomCopy
import Derived.Lib.EndianMore
import Derived.Deep.RegionLaw
import Derived.Shelf.Spec.SlicesGrow
import Derived.LoopTactic
import Derived.Deep.LoopGhost
import Derived.Deep.DeepCutAuto
import Derived.BigRegion
import Derived.Deep.MidRow
import Derived.Deep.WholeRow
import Derived.Laws.ResultCell
import Derived.Sort.LotA
import Derived.Shelf.SlSortCmp.PdqK
import Derived.ChangeSlices
import Derived.Lib.BufferMore
import Derived.RegionTactic
import Derived.OwnWalk
import Derived.Lib.MinMax
import Derived.Deep.Slices
import Derived.Deep.Fields
import Derived.ChangeSame
import Derived.Deep.OwnRows
import Derived.Lib.SlBytesConst
import Derived.Laws.Rows
import Derived.Lib.AppendStr
import Derived.Test.YtjafcjnkefioeaaGreatQaa
import Derived.Test.YtjafcjnkefioeaaGreatQbc
import Derived.Test.YtjafcjnkefioeaaGreatQbh
set_option linter.unusedVariables false
set_option linter.unusedSimpArgs false
/- The walk of the law DeflateBlocks: the document's Right and Kind. -/
namespace Go.Proofs.YtjafcjnkefioeaaGreat.Df
open Go.RowKit Go.Proofs.YtjafcjnkefioeaaGreat.Oct Go.Proofs.YtjafcjnkefioeaaGreat.Bit Go.Proofs.YtjafcjnkefioeaaGreat.Hf Go.Proofs.YtjafcjnkefioeaaGreat.Inf
set_option maxRecDepth 100000
set_option maxHeartbeats 1000000 in
theorem kind_any (ys : List UInt8) (h k : Nat) (r : List Bool) (w : World) (hl : ys.length ≤ 100000) (h8 : h < 8) (hk : h / 2 = k) (he : bitsOf true ys = wordE true h 3 ++ r) :
    Calls Tryz.prog 20 #[.string (bs ys)] w fun e w' => e = .returned (.int .i64 (k : Int)) ∧ Below w.heap.size w w' := by
  have hpos : 0 < ys.length := by
    have := congrArg List.length he
    rw [bitsOf_length, List.length_append, wordE_length] at this
    omega
  have hsz := bs_size ys
  have x1 : (bs ys).extract 0 1 = bs (ys.take 1) := by rw [bs_extract]; simp
  have hN : (bs ys).toList.isEmpty = false := by
    rcases ys with _ | ⟨c, rest⟩
    · simp at hpos
    · rw [bs_toList]; rfl
  have hmin : min (ys.length : Int) 1 = 1 := by omega
  have hof := rof_any (ys.take 1) true w (by rw [List.length_take]; omega)
  have hval : rpV 3 true (bitsOf true (ys.take 1)) 0 = (h : Int) := by
    unfold rpV
    rw [if_pos (by decide), List.drop_zero]
    show ((peekV true (bitsOf true (ys.take 1)) 3 : Nat) : Int) = (h : Int)
    unfold peekV
    rw [bitsOf_take, he, List.take_append_of_le_length (by rw [List.length_take, List.length_append, wordE_length]; have := congrArg List.length he; rw [bitsOf_length, List.length_append, wordE_length] at this; omega), List.take_take, show min 3 (8 * 1) = 3 from by decide, List.take_left' (wordE_length _ _ _), numE_wordE true h 3 (by omega)]
  have hlen1 : (bitsOf true (ys.take 1)).length ≤ 100000 := by rw [bitsOf_length, List.length_take]; omega
  have HPK : Hid (∀ W, Calls Tryz.prog 48 #[.string (ds (bitsOf true (ys.take 1))), .int .i64 0, .int .i64 3, .bool true] W (fun e w' => e = .returned (.tuple #[.int .u32 (h : Int), .int .i64 0]) ∧ W = w')) := Lib.hid fun W => by
    have := rpeek_any (bitsOf true (ys.take 1)) 0 3 true W (Nat.zero_le _) hlen1
    rw [hval] at this
    exact this
  have hd1 : (h : Int) / 2 = (k : Int) := by omega
  have hd2 : (h : Int).tdiv 2 = (k : Int) := by rw [Int.tdiv_eq_ediv_of_nonneg (by omega)]; omega
  have HOF := Lib.hid hof
  clear hof hval hlen1 he hk
  go_enter Tryz.func20, Tryz.ntmps20
  go_wp2_with fail
  refine HOF.out.mono ?_
  rintro e w1 ⟨rfl, hb1⟩
  go_wp2_with fail
  refine (HPK.out _).mono ?_
  rintro e w2 ⟨rfl, rfl⟩
  go_wp2_with fail
  go_ret
  exact ⟨rfl, hb1⟩
set_option maxHeartbeats 1000000 in
theorem right10_any (xs ys : List UInt8) (k : Nat) (w : World) (hX : DefX xs k ys) (hl : xs.length ≤ 800) : Calls Tryz.prog 9 #[.string (bs ys), .string (bs xs), .int .i64 (k : Int)] w (YesP w) := by
  have hyl : ys.length ≤ 3000 := by have := hX.len; omega
  obtain ⟨h, r, h8, hk, he⟩ := hX.head (by omega)
  have hin := hX.inf xs.length (Nat.le_refl _)
  have HIN : Hid (infZ ys (xs.length : Int) = .ok (xs, ys.length)) := Lib.hid (by unfold infZ; rw [if_neg (by omega), Int.toNat_natCast]; exact hin)
  have HRI := Lib.hid (rinflate_any ys (xs.length : Int) w hyl (by omega) (by omega))
  have HKI := Lib.hid (fun W => kind_any ys h k r W (by omega) h8 hk he)
  have hsx := bs_size xs
  have hsy := bs_size ys
  clear hX hin h8 hk he
  go_enter Tryz.func9, Tryz.ntmps9
  go_wp2_with fail
  refine HRI.out.mono ?_
  rintro e w1 ⟨hb1, hres⟩
  rcases hres with ⟨o, j, h1, rfl⟩ | ⟨c, h1, _⟩
  · rw [HIN.out] at h1
    cases h1
    have HB1 := Lib.hid hb1
    clear hb1
    go_wp2_with fail
    refine (HKI.out _).mono ?_
    rintro e w2 ⟨rfl, hb2⟩
    have HB2 := Lib.hid (HB1.out.trans (hb2.mono HB1.out.size))
    clear hb2
    go_wp2_with fail
    go_ret
    exact ⟨rfl, HB2.out⟩
  · rw [HIN.out] at h1; cases h1
set_option maxHeartbeats 4000000 in
theorem blocks_walk10 (p : Option Addr) (len cap : Nat) (zs0 : List Int) (how : Int) (w : World)
    (hr0 : IsRow .u8 w p len cap zs0) (hh0 : (Lit.int .i64 how).wf = true) :
    Calls Tryz.prog 3 #[.slice p len cap, .int .i64 how] w fun e w' => e = .returned (.bool true) ∧ Below w.heap.size w w' := by
  obtain ⟨xs, hx, hr, hlc, hcm, hnil⟩ := hr0.row
  obtain ⟨hhl, hhu⟩ := bounds_i64 hh0
  clear hr0 hh0
  by_cases hbig : 800 < len
  · have hd : decide (800 < (len : Int)) = true := by simp; omega
    unfold maxLen at hcm
    go_enter Tryz.func3, Tryz.ntmps3
    go_wp2_with fail
    refine (lives_any _).mono ?_
    rintro e w1 ⟨rfl, hb1⟩
    go_wp2_with fail
    refine (lives_any _).mono ?_
    rintro e w2 ⟨rfl, hb2⟩
    go_wp2_with fail
    go_ret
    exact ⟨rfl, hb1.trans (hb2.mono hb1.size)⟩
  · have hd : decide (800 < (len : Int)) = false := by simp; omega
    have HX := Lib.hid hx
    have HR := Lib.hid hr
    unfold maxLen at hcm
    clear hx hr
    go_enter Tryz.func3, Tryz.ntmps3
    go_wp2_with fail
    refine (lives_any _).mono ?_
    rintro e w1 ⟨rfl, hb1⟩
    have hown := World.ownsRow_made (base := w1.heap.size) (e := 5) (size := 1) w1 #[] 0 (Nat.le_refl _) (by simp [maxLen]) rfl
    have hbA : Below w1.heap.size w1 (w1.alloc (.cells #[] 5)) := (Below.refl _ w1).alloc (Nat.le_refl _) _
    have HRA := Lib.hid (HR.out.below (hb1.trans (hbA.mono hb1.size)))
    have HBA := Lib.hid hbA
    have HB1 := Lib.hid hb1
    clear hb1 hbA
    go_wp2_with (at_builtin; refine wpList_append_bytes rfl _ _ rfl w1.heap.size _ 0 [] rfl hown p len cap xs rfl HRA.out HX.out hnil (by omega) (by simp) ?_)
    intro v5 w5 hown5 hgrow5 hv5
    have HB5 := Lib.hid (HBA.out.trans (grown_below hown hgrow5 HBA.out.size))
    obtain ⟨q5, c5, rfl, hq5, hc5, hm5, hrow5⟩ := own_shape hown5 HX.out
    have hfit : Fits xs how := ⟨by rw [HX.out]; omega, fun _ => .inl (by rw [HX.out]; omega)⟩
    have HD := Lib.hid (deflate_any w5 q5 len c5 xs how hrow5 HX.out hc5 hm5 hfit)
    have HR5 := Lib.hid hrow5
    have HBW := Lib.hid (HB1.out.trans (HB5.out.mono HB1.out.size))
    clear hown hown5 hgrow5 hv5 HRA HBA hrow5 hm5 hc5 hfit
    go_wp2_with fail
    refine HD.out.mono ?_
    rintro e w6 ⟨hb6, ⟨hbad, rfl⟩ | ⟨k, ys, q, c, hk, hk2, hX, rfl, hrow, h1, h2, h3, _⟩⟩
    · have HB6 := Lib.hid (HBW.out.trans (hb6.mono HBW.out.size))
      clear hb6 HD
      by_cases hneg : how < 0
      · have q0 : decide (how < 0) = true := by simpa using hneg
        go_wp2_with fail
        go_ret
        exact ⟨rfl, HB6.out⟩
      · have q0 : decide (how < 0) = false := by simp; omega
        have q1 : decide (2 < how) = true := by simp; omega
        go_wp2_with fail
        go_ret
        exact ⟨rfl, HB6.out⟩
    · subst hk
      have q0 : decide ((k : Int) < 0) = false := by simp
      have q1 : decide (2 < (k : Int)) = false := by simp; omega
      obtain ⟨N, hN⟩ : ∃ N, N = ys.length := ⟨_, rfl⟩
      rw [← hN]
      have ca1 := conv_row N c hrow hN.symm
      have ca2 := conv_row len cap (HR.out.below (HBW.out.trans (hb6.mono HBW.out.size))) HX.out
      have HB6 := Lib.hid (HBW.out.trans (hb6.mono HBW.out.size))
      have HRI := Lib.hid (fun W => right10_any xs ys k W hX (by rw [HX.out]; omega))
      have HR6 := Lib.hid (HR5.out.below hb6)
      clear hb6 hX hrow h1 h2 h3 HD hN
      go_wp2_with fail
      refine (HRI.out _).mono ?_
      rintro e w7 ⟨rfl, hb7⟩
      have HB7 := Lib.hid (HB6.out.trans (hb7.mono HB6.out.size))
      have cb1 := conv_row len c5 (HR6.out.below hb7) HX.out
      have cb2 := conv_row len cap (HR.out.below HB7.out) HX.out
      clear hb7 ca1 ca2 HRI
      go_wp2_with fail
      go_ret
      exact ⟨rfl, HB7.out⟩
end Go.Proofs.YtjafcjnkefioeaaGreat.Df
