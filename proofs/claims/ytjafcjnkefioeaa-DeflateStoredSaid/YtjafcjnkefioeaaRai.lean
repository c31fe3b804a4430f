/- BitY, DfA, IgG, IfM, IgH: merged. -/
import Derived.Test.YtjafcjnkefioeaaRows
import Derived.Laws.BitsAllLaws
import Derived.Laws.Strings
import Derived.Laws.BytesArg
import Derived.WalkKit
import Derived.ProofKit
import Derived.WalkLawsBesides
import Derived.Lib.Hide
import Derived.Deep.QuietTactic
import Derived.BigQuiet
import Derived.Outline
import Derived.Laws.NewBlocks
import Derived.Laws.CopyOwn
import Derived.Laws.Concat
import Derived.Laws.Strings2
import Derived.WalkSpells
import Derived.Laws.AppendOwnNone
import Derived.OpenShut
import Derived.Lib.SliceRun
import Derived.Deep.AppendLies
import Derived.Deep.RegionHeld3
import Derived.ChangeKeysEq
import Derived.Laws.Pointers
import Derived.Laws.Externs
import Derived.Laws.IdiomCopy
import Derived.Lib.EndianMore
import Derived.Deep.RegionLaw
import Derived.Shelf.Spec.SlicesGrow
import Derived.LoopTactic
import Derived.Deep.LoopGhost
import Derived.Test.YtjafcjnkefioeaaRaf
import Derived.Test.YtjafcjnkefioeaaRag
import Derived.Test.YtjafcjnkefioeaaRah
set_option linter.unusedVariables false
set_option linter.unusedSimpArgs false
/- Contracts of NewWriter, Len, Bytes, Align, Write and Word of a writer. -/
namespace Go.Proofs.Ytjafcjnkefioeaa.Bit
open Go.RowKit Go.Proofs.Ytjafcjnkefioeaa.Oct
set_option maxRecDepth 20000
def Ws (w : World) (g : Nat) (v : Value) (l : List Bool) (low : Bool) : Prop := Wr w g v (packB low l) l.length low
def WsT (w : World) (g : Nat) (v : Value) (l : List Bool) (low : Bool) (w' : World) : Prop := WrT w g v (packB low l) l.length low w'
def NewW (w : World) (low : Bool) (e : Ending) (w' : World) : Prop :=
  Below w.heap.size w w' ∧ e = .returned (.pointer (some ⟨w.heap.size, 0, none⟩)) ∧ Ws w' w.heap.size (.slice none 0 0) [] low
theorem newWriter_any (low : Bool) (w : World) : Calls Try.prog 7 #[.bool low] w (NewW w low) := by
  go_enter Try.func7, Try.ntmps7
  go_wp2_with fail
  go_ret
  refine ⟨(Below.refl _ w).alloc (Nat.le_refl _) _, rfl, ?_, ?_, ?_⟩
  · show (w.heap.push _)[w.heap.size]? = _
    simp
  · rw [packB_nil]
    exact World.ownsRow_nil _ _ _ _
  · intro h; cases h
theorem bytes_any (w : World) (g : Nat) (v : Value) (l : List Bool) (low : Bool) (hW : Ws w g v l low) (hl : l.length ≤ 2000000) :
    Calls Try.prog 31 #[.pointer (some ⟨g, 0, none⟩)] w (CloneP w (packB low l)) := by
  have c0 := Wr.c0 hW
  obtain ⟨p, cap, hv, hr, hnil⟩ : ∃ p cap, v = .slice p (packB low l).length cap ∧ Row w p (packB low l) ∧ (p = none → cap = 0) := by
    rcases Wr.form hW with ⟨rfl, h0⟩ | ⟨r, cap, rfl, _, _, _, _, hr⟩
    · exact ⟨none, 0, by rw [h0]; rfl, by rw [h0]; exact fun h => absurd h (by simp), fun _ => rfl⟩
    · exact ⟨_, _, rfl, hr, fun h => by cases h⟩
  subst hv
  have hpl := packB_length low l
  have hcl := clone_any p (packB low l).length cap (packB low l) w hr rfl hnil (by omega)
  have HCL := Lib.hid hcl
  clear hcl hnil hr hW hpl
  go_enter Try.func31, Try.ntmps31
  go_wp2_with fail
  refine HCL.out.mono ?_
  rintro e w1 ⟨hb, q, cap1, rfl, r⟩
  have R := Lib.hid r
  clear r
  go_wp2_with fail
  go_ret
  exact ⟨hb, q, cap1, rfl, R.out⟩
def padL (l : List Bool) : List Bool := l ++ zs (8 * ((l.length + 7) / 8) - l.length)
theorem padL_length (l : List Bool) : (padL l).length = 8 * ((l.length + 7) / 8) := by unfold padL; rw [List.length_append, zs_length]; omega
def WAlP (w : World) (g : Nat) (v : Value) (l : List Bool) (low : Bool) (e : Ending) (w' : World) : Prop := e = .returned (.tuple #[]) ∧ WsT w g v (padL l) low w'
theorem walign_any (w : World) (g : Nat) (v : Value) (l : List Bool) (low : Bool) (hW : Ws w g v l low) (hl : l.length ≤ 2000000) :
    Calls Try.prog 18 #[.pointer (some ⟨g, 0, none⟩)] w (WAlP w g v l low) := by
  have c1 := Wr.c1 hW
  have hfz := Wr.fz hW 1
  have hS := Wr.setLen hW (8 * ((l.length + 7) / 8))
  have hO : Only (Mine g v) w (w.setCell ⟨g, 1, none⟩ (.int .i64 ((8 * ((l.length + 7) / 8) : Nat) : Int))) := Only.setCell (p := ⟨g, 1, none⟩) (.inl rfl) _
  rw [Int.natCast_mul] at hS hO
  have HS := Lib.hid hS
  have HO := Lib.hid hO
  clear hS hO hW
  go_enter Try.func18, Try.ntmps18
  go_wp2_with fail
  refine (bytesFor_any _ _ (by omega)).mono ?_
  rintro e w' ⟨rfl, rfl⟩
  go_wp2_with fail
  go_end0
  refine ⟨rfl, v, ?_, HO.out, fun _ h => .inl h⟩
  rw [padL_length, show packB low (padL l) = packB low l from packB_pad low l]
  exact HS.out
def okW (m : Nat) (n : Int) : Bool := cntB n && decide (m < 2 ^ n.toNat)
def wrE (m : Nat) (n : Int) : Int := if cntB n then (if okW m n then 0 else 7) else 1
def wrL (low : Bool) (l : List Bool) (m : Nat) (n : Int) : List Bool := if okW m n then l ++ wordE low m n.toNat else l
def WrtP (w : World) (g : Nat) (v : Value) (l : List Bool) (low : Bool) (m : Nat) (n : Int) (e : Ending) (w' : World) : Prop :=
  e = .returned (.int .i64 (wrE m n)) ∧ WsT w g v (wrL low l m n) low w'
theorem shr_zero (m k : Nat) : ((m : Int) / 2 ^ k != 0) = !decide (m < 2 ^ k) := by
  have e : ((m : Int) / 2 ^ k) = ((m / 2 ^ k : Nat) : Int) := by push_cast; rfl
  rw [e, Bool.eq_iff_iff]
  have hp : 0 < 2 ^ k := Nat.pow_pos (by omega)
  have hz := @Nat.div_eq_zero_iff m (2 ^ k)
  generalize m / 2 ^ k = d at hz ⊢
  generalize 2 ^ k = b at hz hp ⊢
  simp
  omega
theorem write_any (w : World) (g : Nat) (v : Value) (l : List Bool) (low : Bool) (m : Nat) (n : Int) (hm : m < 4294967296) (hl : l.length ≤ 2000000) (hW : Ws w g v l low) :
    Calls Try.prog 34 #[.pointer (some ⟨g, 0, none⟩), .int .u32 (m : Int), .int .i64 n] w (WrtP w g v l low m n) := by
  have HW := Lib.hid hW
  clear hW
  by_cases hc : cntB n = true
  · have hb := of_decide_eq_true hc
    obtain ⟨k, rfl⟩ : ∃ k : Nat, n = (k : Int) := ⟨n.toNat, by omega⟩
    have hk : k ≤ 32 := by omega
    have hsz := shr_zero m k
    by_cases ho : m < 2 ^ k
    · have how : okW m (k : Int) = true := by unfold okW; rw [hc]; simpa using ho
      have e1 : wrE m (k : Int) = 0 := by unfold wrE; rw [hc, how]; rfl
      have e2 : wrL low l m (k : Int) = l ++ wordE low m k := by unfold wrL; rw [how]; rfl
      rw [show decide (m < 2 ^ k) = true from by simpa using ho, Bool.not_true] at hsz
      have HC := Lib.hid hc
      have E1 := Lib.hid e1
      have E2 := Lib.hid e2
      have HO := Lib.hid ho
      clear hc e1 e2 how ho
      go_enter Try.func34, Try.ntmps34
      go_wp2_with fail
      refine (count_any _ _).mono ?_
      rintro e w' ⟨rfl, rfl⟩
      rw [HC.out]
      go_wp2_with fail
      refine (add_any _ _ _ _ _ _ _ HO.out hk hl HW.out).mono ?_
      rintro e w1 ⟨rfl, hT⟩
      have HT := Lib.hid hT
      clear hT
      go_wp2_with fail
      go_ret
      exact ⟨by rw [E1.out]; rfl, by rw [E2.out]; exact HT.out⟩
    · have how : okW m (k : Int) = false := by unfold okW; rw [hc]; simp at ho; simpa using ho
      have e1 : wrE m (k : Int) = 7 := by unfold wrE; rw [hc, how]; rfl
      have e2 : wrL low l m (k : Int) = l := by unfold wrL; rw [how]; rfl
      rw [show decide (m < 2 ^ k) = false from by simp at ho; simpa using ho, Bool.not_false] at hsz
      have HC := Lib.hid hc
      have E1 := Lib.hid e1
      have E2 := Lib.hid e2
      clear hc e1 e2 how ho
      go_enter Try.func34, Try.ntmps34
      go_wp2_with fail
      refine (count_any _ _).mono ?_
      rintro e w' ⟨rfl, rfl⟩
      rw [HC.out]
      go_wp2_with fail
      go_ret
      exact ⟨by rw [E1.out]; rfl, by rw [E2.out]; exact WrT.refl HW.out⟩
  · have hc' : cntB n = false := by simpa using hc
    have how : okW m n = false := by unfold okW; rw [hc']; rfl
    have e1 : wrE m n = 1 := by unfold wrE; rw [hc']; rfl
    have e2 : wrL low l m n = l := by unfold wrL; rw [how]; rfl
    have HC := Lib.hid hc'
    have E1 := Lib.hid e1
    have E2 := Lib.hid e2
    clear hc hc' e1 e2 how
    go_enter Try.func34, Try.ntmps34
    go_wp2_with fail
    refine (count_any _ _).mono ?_
    rintro e w' ⟨rfl, rfl⟩
    rw [HC.out]
    go_wp2_with fail
    go_ret
    exact ⟨by rw [E1.out]; rfl, by rw [E2.out]; exact WrT.refl HW.out⟩
theorem wordE_one (low b : Bool) : wordE low b.toNat 1 = [b] := by cases low <;> cases b <;> rfl
def WordP (w : World) (g : Nat) (v : Value) (l m : List Bool) (low : Bool) (e : Ending) (w' : World) : Prop := e = .returned (.int .i64 0) ∧ WsT w g v (l ++ m) low w'
set_option maxHeartbeats 400000 in
theorem word_any (w : World) (g : Nat) (v : Value) (l m : List Bool) (low : Bool) (hl : l.length + m.length ≤ 2000000) (hW : Ws w g v l low) :
    Calls Try.prog 78 #[.pointer (some ⟨g, 0, none⟩), .string (ds m)] w (WordP w g v l m low) := by
  have hsz := ds_size m
  have hwd := isWord_any (m.map dig) w (by simp; omega)
  rw [wordB_dig] at hwd
  have HWD := Lib.hid hwd
  have HW := Lib.hid hW
  clear hwd hW
  go_enter Try.func78, Try.ntmps78
  go_wp2_with fail
  refine HWD.out.mono ?_
  rintro e w' ⟨rfl, rfl⟩
  go_wp2_with fail
  go_loopw [5, 13] (fun u i wr => ∃ j : Nat, j ≤ m.length ∧ i = .int .i64 (j : Int) ∧ WsT w g v (l ++ m.take j) low wr) (fun _ i _ => m.length - (intOf i).toNat)
  case atStart => exact ⟨0, by omega, rfl, by rw [List.take_zero, List.append_nil]; exact WrT.refl HW.out⟩
  case round =>
    obtain ⟨j, hj, rfl, hT⟩ := hrel
    by_cases hlt : j < m.length
    · obtain ⟨v1, hW1, ho1, hd1⟩ := hT
      obtain ⟨b, hb⟩ : ∃ b, b = m[j] := ⟨_, rfl⟩
      have hg : ∀ h, (ds m)[j]'h = dig b := fun h => (ds_get m j h hlt).trans (by rw [hb])
      have htk : m.take (j + 1) = m.take j ++ [b] := by rw [hb, List.take_succ_eq_append_getElem hlt]
      have hdb := dig_toNat b
      have hbl : b.toNat ≤ 1 := by cases b <;> simp
      have hv1 : (((dig b).toNat : Int) - 48) % 256 = (b.toNat : Int) := by rw [hdb]; omega
      have hv2 : b.toNat < 4294967296 := by omega
      have ha := add_any wr g v1 (l ++ m.take j) low b.toNat 1 (by omega) (by omega) (by simp; omega) hW1
      rw [wordE_one, List.append_assoc, ← htk] at ha
      have HA := Lib.hid ha
      have HV := Lib.hid hv1
      clear ha hb htk hdb hv1
      have HG := Lib.hid hg
      clear hg
      go_wp2_with fail
      rw [HG.out]
      first | rw [HV.out] | rw [IntKind.wrap_u8, HV.out]
      refine HA.out.mono ?_
      rintro e w2 ⟨rfl, hT2⟩
      go_wp2_with fail
      go_roundw
      case rel => exact ⟨j + 1, by omega, by go_num, WrT.more ho1 hd1 hT2⟩
      case measure => simp [intOf]; omega
    · have hjl : j = m.length := by omega
      subst hjl
      rw [List.take_length] at hT
      go_wp2_with fail
      go_ret
      exact ⟨rfl, hT⟩
end Go.Proofs.Ytjafcjnkefioeaa.Bit
/- The contracts of Len, Word and Write of a book of texts. -/
namespace Go.Proofs.Ytjafcjnkefioeaa.Df
open Go.RowKit Go.Proofs.Ytjafcjnkefioeaa.Oct Go.Proofs.Ytjafcjnkefioeaa.Bit Go.Proofs.Ytjafcjnkefioeaa.Hf
set_option maxRecDepth 100000
theorem blen_any (w : World) (C g : Nat) (ws : List (List UInt8)) (ms : List Value) (hB : Bk w C g ws ms) : Calls Try.prog 88 #[.pointer (some ⟨g, 0, none⟩)] w fun e w' => e = .returned (.int .i64 (ws.length : Int)) ∧ w = w' := by
  obtain ⟨pw, cw, pm, cm, A, E, hT, hS, hvw, hvm, hlw, hlm⟩ := hB
  have h0 := hT.h0
  clear hT hS hvw hvm hlw hlm
  go_enter Try.func88, Try.ntmps88
  go_wp2_with fail
  go_ret
  exact ⟨rfl, rfl⟩
def WordN (w : World) (s : List UInt8) (c : Int) (e : Ending) (w' : World) : Prop := e = .returned (.tuple #[.string (bs s), .int .i64 c]) ∧ w = w'
theorem bword_in (w : World) (C g : Nat) (ws : List (List UInt8)) (ms : List Value) (i : Nat) (s : List UInt8) (hB : Bk w C g ws ms) (hi : ws[i]? = some s) :
    Calls Try.prog 77 #[.pointer (some ⟨g, 0, none⟩), .int .i64 (i : Int)] w (WordN w s 0) := by
  have HL := Lib.hid (blen_any w C g ws ms hB)
  obtain ⟨pw, cw, pm, cm, A, E, hT, hS, hvw, hvm, hlw, hlm⟩ := hB
  have h0 := hT.h0
  have hs : (strs ws)[i]? = some (.string (bs s)) := by simp [strs, hi]
  obtain ⟨b, off, rfl, hb, hc⟩ := vrow_get hvw hs
  have hil : i < ws.length := (List.getElem?_eq_some_iff.1 hi).1
  have hd0 : decide ((i : Int) < 0) = false := by simp
  have hd1 : decide ((ws.length : Int) ≤ (i : Int)) = false := by simp; omega
  have j0 : (0 : Int) ≤ (i : Int) := by omega
  have j1 : (i : Int) < (ws.length : Int) := by omega
  generalize ws.length = n at *
  generalize hsb : bs s = sb at hc
  have HSB := Lib.hid hsb
  clear hT hS hvw hvm hlw hlm hs hi hil hsb
  go_enter Try.func77, Try.ntmps77
  go_wp2_with fail
  refine HL.out.mono ?_
  rintro e w' ⟨rfl, rfl⟩
  go_wp2_with fail
  go_ret2
  exact ⟨by rw [HSB.out]; rfl, rfl⟩
def WriteP (w : World) (gw : Nat) (v : Value) (l m : List Bool) (low : Bool) (e : Ending) (w' : World) : Prop := e = .returned (.int .i64 0) ∧ WsT w gw v (l ++ m) low w'
theorem ds_nonempty (m : List Bool) (hm : m ≠ []) : (ds m).toList.isEmpty = false := by
  show (bs (m.map dig)).toList.isEmpty = false
  rw [bs_toList]
  cases m
  · exact absurd rfl hm
  · rfl
theorem bwrite_in (w : World) (C g : Nat) (ws : List (List UInt8)) (ms : List Value) (gw : Nat) (v : Value) (l m : List Bool) (low : Bool) (i : Nat) (hB : Bk w C g ws ms) (hi : ws[i]? = some (m.map dig)) (hm : m ≠ []) (hW : Ws w gw v l low) (hl : l.length + m.length ≤ 2000000) :
    Calls Try.prog 56 #[.pointer (some ⟨g, 0, none⟩), .pointer (some ⟨gw, 0, none⟩), .int .i64 (i : Int)] w (WriteP w gw v l m low) := by
  have HW := Lib.hid (show Calls Try.prog 77 #[.pointer (some ⟨g, 0, none⟩), .int .i64 (i : Int)] w (fun e w' => e = .returned (.tuple #[.string (ds m), .int .i64 0]) ∧ w = w') from bword_in w C g ws ms i _ hB hi)
  have HWW := Lib.hid (word_any w gw v l m low hl hW)
  have hem := ds_nonempty m hm
  generalize ds m = sb at HW HWW hem
  clear hB hi hm hW hl
  go_enter Try.func56, Try.ntmps56
  go_wp2_with fail
  refine HW.out.mono ?_
  rintro e w' ⟨rfl, rfl⟩
  go_wp2_with fail
  refine HWW.out.mono ?_
  rintro e w' ⟨rfl, hT⟩
  have HT := Lib.hid hT
  clear hT
  go_wp2_with fail
  go_ret
  exact ⟨rfl, HT.out⟩
end Go.Proofs.Ytjafcjnkefioeaa.Df
/- The contract of slices.Repeat at a row of one number. -/
namespace Go.Proofs.Ytjafcjnkefioeaa.Inf
open Go.RowKit Go.Shelf Go.Proofs.Ytjafcjnkefioeaa.Oct Go.Proofs.Ytjafcjnkefioeaa.Bit Go.Proofs.Ytjafcjnkefioeaa.Hf
set_option maxRecDepth 100000
theorem and_mask8 (c : Nat) (hc : c ≤ 1000) : bits .and .u64 (c : Int) 4294967295 = (c : Int) := by
  rw [show (4294967295 : Int) = ((4294967295 : Nat) : Int) from rfl, u64_and_nat c 4294967295 (by omega) (by omega)]
  congr 1
  rw [show (4294967295 : Nat) = 2 ^ 32 - 1 from rfl, Nat.and_two_pow_sub_one_eq_mod]
  omega
theorem mul64_one8 (c : Nat) (w : World) (hc : c ≤ 1000) :
    Calls Try.prog 76 #[.int .u64 1, .int .u64 (c : Int)] w fun e w' => e = .returned (.tuple #[.int .u64 0, .int .u64 (c : Int)]) ∧ w = w' := by
  have h1 : bits .and .u64 1 4294967295 = 1 := by decide
  have h0 : bits .and .u64 0 4294967295 = 0 := by decide
  have h2 := and_mask8 c hc
  have h3 : (c : Int) / 4294967296 = 0 := by omega
  go_enter Try.func76, Try.ntmps76
  go_wp2
  go_ret2
  exact ⟨rfl, rfl⟩
theorem mul_one8 (c : Nat) (w : World) (hc : c ≤ 1000) :
    Calls Try.prog 55 #[.int .u64 1, .int .u64 (c : Int)] w fun e w' => e = .returned (.tuple #[.int .u64 0, .int .u64 (c : Int)]) ∧ w = w' := by
  go_enter Try.func55, Try.ntmps55
  go_wp2_with fail
  refine (mul64_one8 _ _ hc).mono ?_
  rintro e w' ⟨rfl, rfl⟩
  go_wp2_with fail
  go_ret2
  exact ⟨rfl, rfl⟩
theorem step_copy_run8 {P : Program} {ops : Array Oper} {o : Oper} {a : Act} {w : World} {K : Act → World → Prop} {Q : Exit → Act → World → Prop} {E : Prop}
    (hg : o.guard = none) (d x : Operand) (dT sT : TypeId) (hop : o.op = Op.call { callee := Callee.builtin Builtin.copy, args := #[d, x], argTypes := #[dT, sT] })
    (v u : Value) (hd : a.eval d = v) (hx : a.eval x = u) {v' : Value} {w' : World} (hr : (Builtin.copy_ #[dT, sT] o.type #[v, u]).run P w = .ok v' w') (hK : K (a.put o.dst v') w') :
    if Region.wanted o (yielded ops a.tmps) = true then Oper.wp P o a w K Q else E := by
  have hw : Region.wanted o (yielded ops a.tmps) = true := by simp [Region.wanted, hg]
  rw [if_pos hw]
  unfold Oper.wp execOp
  simp only [hop, resolve, invoke, builtin, Sem.run_bind, Sem.run_pure, Result.andThen_ok, List.map_toArray, List.map_cons, List.map_nil, hd, hx, hr]
  exact hK
theorem wpList_copy_run8 {P : Program} {w : World} {ops : Array Oper} {rest : List Oper} {o : Oper} {a : Act} {Q : Exit → Act → World → Prop}
    (hg : o.guard = none) (d x : Operand) (dT sT : TypeId) (hop : o.op = Op.call { callee := Callee.builtin Builtin.copy, args := #[d, x], argTypes := #[dT, sT] })
    (v u : Value) (hd : a.eval d = v) (hx : a.eval x = u) {v' : Value} {w' : World} (hr : (Builtin.copy_ #[dT, sT] o.type #[v, u]).run P w = .ok v' w') (hK : wpList P ops Q rest (a.put o.dst v') w') : wpList P ops Q (o :: rest) a w := by
  refine wpList_plain hg fun K hK' => ?_
  unfold Oper.wp execOp
  simp only [hop, resolve, invoke, builtin, Sem.run_bind, Sem.run_pure, Result.andThen_ok, List.map_toArray, List.map_cons, List.map_nil, hd, hx, hr]
  exact hK' _ _ hK
theorem made_vals8 (z : Value) (n : Nat) : (madeCells #[z] n).toList = List.replicate n z := by
  simp [madeCells]
  apply List.ext_getElem <;> simp [Nat.mod_one]
def RepSt (w : World) (n : Nat) (z : Int) (k : Nat) (wr : World) : Prop :=
  Below w.heap.size w wr ∧ w.heap.size < wr.heap.size ∧ ∀ j, j < n → wr.cell? ⟨w.heap.size, j, none⟩ = some (.int .i64 (if j < k then z else 0)) ∧ wr.frozen? ⟨w.heap.size, j, none⟩ = false
theorem RepSt.drew {w wr : World} {n : Nat} {z : Int} {k : Nat} (h : RepSt w n z k wr) : RepSt w n z k wr.drew := ⟨h.1.trans ((show Drawn wr wr.drew from ⟨1, rfl⟩).below _), h.2⟩
theorem setCells_size (b : Nat) : ∀ (vs : List Value) (o : Nat) (w : World), (w.setCells b o vs).heap.size = w.heap.size
  | [], _, _ => rfl
  | v :: r, o, w => by rw [World.setCells, setCells_size b r]; simp [World.setCell]
theorem RepSt.copy {w wr : World} {n : Nat} {z : Int} {k m : Nat} (h : RepSt w n z k wr) (hkm : k + m ≤ n) : RepSt w n z (k + m) (wr.setCells w.heap.size k (List.replicate m (.int .i64 z))) := by
  have hin := World.cell?_setCells_in w.heap.size (List.replicate m (Value.int .i64 z)) k wr (fun j hj => by rw [List.length_replicate] at hj; rw [(h.2.2 (k + j) (by omega)).1]; rfl)
  have hout := World.cell?_setCells_out w.heap.size (List.replicate m (Value.int .i64 z)) k wr
  refine ⟨h.1.trans (Lib.below_setCells_w (Nat.le_refl _) _ _ _), by rw [setCells_size]; exact h.2.1, fun j hj => ⟨?_, ?_⟩⟩
  · by_cases h1 : k ≤ j ∧ j < k + m
    · obtain ⟨d, rfl⟩ : ∃ d, j = k + d := ⟨j - k, by omega⟩
      rw [hin d (by rw [List.length_replicate]; omega), if_pos h1.2]
      simp
    · rw [hout ⟨w.heap.size, j, none⟩ (fun _ _ => by rw [List.length_replicate]; show j < _ ∨ _ ≤ j; omega), (h.2.2 j hj).1]
      by_cases h2 : j < k
      · rw [if_pos h2, if_pos (by omega)]
      · rw [if_neg h2, if_neg (by omega)]
  · rw [World.frozen?_setCells]
    exact (h.2.2 j hj).2
theorem sizeInt8 : (Try.prog.info? 3).map (·.size) = some 1 := by kernel_rfl
theorem rep_copy (w wr : World) (n k l1 c1 l2 c2 m ty : Nat) (z : Int) (a : Addr) (h : RepSt w n z k wr) (hm : m = min l2 l1) (hkm : k + m ≤ n) (hs : ∀ j, j < m → wr.cell? (a.add j) = some (.int .i64 z)) :
    (Builtin.copy_ #[51, 51] ty #[.slice (some ⟨w.heap.size, k, none⟩) l1 c1, .slice (some a) l2 c2]).run Try.prog wr = .ok (.int .i64 (m : Int)) (wr.setCells w.heap.size k (List.replicate m (.int .i64 z))) := by
  have hr := run_copy_cells (P := Try.prog) wr 51 51 ty 3 w.heap.size k l1 c1 a l2 c2 (List.replicate m (Value.int .i64 z)) Try.underlying51 sizeInt8 (by rw [List.length_replicate]; exact hm)
    (fun j u hj => by
      rw [List.getElem?_replicate] at hj
      split at hj
      · injection hj with hj
        subst hj
        exact hs j (by assumption)
      · cases hj)
    (fun j hj => by rw [List.length_replicate] at hj; rw [(h.2.2 (k + j) (by omega)).1]; rfl)
    (fun j hj => by rw [List.length_replicate] at hj; exact (h.2.2 (k + j) (by omega)).2)
    (fun u hu => by rw [List.eq_of_mem_replicate hu]; rfl)
  rw [List.length_replicate] at hr
  exact hr
def RepI (w : World) (n : Nat) (z : Int) (e : Ending) (w' : World) : Prop :=
  e = .returned (.slice (some ⟨w.heap.size, 0, none⟩) n n) ∧ Below w.heap.size w w' ∧ VRow w' w'.heap.size (some ⟨w.heap.size, 0, none⟩) (ints (List.replicate n z))
set_option maxHeartbeats 4000000 in
theorem repI_any (p : Option Addr) (cap : Nat) (z : Int) (n : Nat) (w : World) (hr : VRow w w.heap.size p (ints [z])) (h1 : 1 ≤ n) (hn : n ≤ 1000) :
    Calls Try.prog 36 #[.slice p 1 cap, .int .i64 (n : Int)] w (RepI w n z) := by
  obtain ⟨i0, hi, hz0, hz1, hz2⟩ := info_parts Try.infoInt
  obtain ⟨b, off, rfl, hb⟩ := hr.addr (by simp [ints])
  have c0 := hr.int 0 (by simp)
  have HC0 := Lib.hid c0
  have HBL := Lib.hid hb
  clear c0 hr hb
  have i1 : (0 : Int) ≤ (n : Int) := by omega
  have hw : IntKind.u64.wrap (n : Int) = (n : Int) := by rw [IntKind.wrap_u64]; omega
  go_enter Try.func36, Try.ntmps36
  go_wp2_with fail
  refine (mul_one8 n _ hn).mono ?_
  rintro e w' ⟨rfl, rfl⟩
  have q2 : decide ((n : Int) > 9223372036854775807) = false := by simp; omega
  go_wp2_with (at_make; refine wpList_make_full _ rfl _ _ 51 rfl w.heap.size 3 i0 (.int .i64 0) 1 Try.underlying51 hi hz0 hz1 .i64 .i64 (n : Int) (n : Int) n rfl rfl rfl rfl ?c2 ?c3 ?c4 ?_)
  case c2 => rw [hz2]; omega
  case c3 => unfold maxLen; omega
  case c4 => omega
  intro w1 hown hgrow
  have hb1 : Below w.heap.size w w1 := (Below.refl _ _).grown hgrow (Nat.le_refl _) (fun k hk => by cases hk)
  have hblk := blk_of_own hown
  have hlt : w.heap.size < w1.heap.size := by
    rcases Nat.lt_or_ge w.heap.size w1.heap.size with h | h
    · exact h
    · rw [Array.getElem?_eq_none h] at hblk; cases hblk
  have hst0 : RepSt w n z 0 w1 := ⟨hb1, hlt, fun j hj => ⟨by
    have h0 : (madeCells #[Value.int .i64 0] n).toList[j]? = some (.int .i64 0) := by
      rw [made_vals8, List.getElem?_replicate, if_pos hj]
    have := hown.cells (g := w.heap.size) rfl j _ h0
    rw [add_plain, Nat.zero_add] at this
    rw [if_neg (by omega)]
    exact this, by simp [World.frozen?, hblk]⟩⟩
  have hc1 := (hb1.cell (p := ⟨b, off + 0, none⟩) HBL.out).trans HC0.out
  have hr1 := rep_copy w w1 n 0 n n 1 cap 1 3 z ⟨b, off, none⟩ hst0 (by omega) (by omega) (fun j hj => by
    have : j = 0 := by omega
    subst this
    rw [add_plain]
    exact hc1)
  have hst1 := hst0.copy (m := 1) (by omega)
  have HST := Lib.hid hst1
  clear hown hgrow hb1 hblk hlt hst0 hc1 hst1
  go_wp2_with (at_builtin; refine wpList_copy_run8 rfl _ _ 51 51 rfl _ _ rfl rfl hr1 ?_)
  go_wp2_with fail
  clear hr1
  go_loopw [8] (fun v wr => ∃ k : Nat, 1 ≤ k ∧ k ≤ n ∧ v = .int .i64 (k : Int) ∧ Hid (RepSt w n z k wr)) (fun v _ => n - (intOf v).toNat)
  case atStart => exact ⟨1, by omega, by omega, rfl, HST⟩
  case round =>
    obtain ⟨k, hk1, hkn, rfl, HB⟩ := hrel
    by_cases hlt : k < n
    · have ql : decide ((k : Int) < (n : Int)) = true := by simpa using hlt
      obtain ⟨m, hm⟩ : ∃ m, m = min k (n - k) := ⟨_, rfl⟩
      have hm1 : 1 ≤ m := by omega
      have hm2 : k + m ≤ n := by omega
      have hr2 := rep_copy w wr.drew n k (n - k) (n - k) k n m 3 z ⟨w.heap.size, 0, none⟩ HB.out.drew hm hm2 (fun j hj => by
        rw [add_plain, Nat.zero_add, (HB.out.drew.2.2 j (by omega)).1, if_pos (by omega)])
      have HB2 := Lib.hid (HB.out.drew.copy (m := m) hm2)
      have hck : ¬ n = k := by omega
      have hwp : IntKind.i64.wrap ((k : Int) + (m : Int)) = (k : Int) + (m : Int) := IntWalk.i64_in _ (by omega)
      clear HB hm HST
      go_wp2_with fail
      go_region_law (refine step_copy_run8 rfl _ _ 51 51 rfl (.slice (some ⟨w.heap.size, k, none⟩) (n - k) (n - k)) (.slice (some ⟨w.heap.size, 0, none⟩) k n) (by simp [Act.eval, Act.put]) (by simp [Act.eval, Act.put]) hr2 ?_)
      simp only [Act.put, List.setIfInBounds_toArray, List.set_cons_zero, List.set_cons_succ, List.getElem_toArray, List.getElem_cons_zero, List.getElem_cons_succ]
      go_wp2_with fail
      go_roundw
      case rel => exact ⟨k + m, by omega, hm2, by go_num, HB2⟩
      case measure => simp [intOf]; omega
    · have : k = n := by omega
      subst this
      have ql : decide ((k : Int) < (k : Int)) = false := by simp
      go_wp2_with fail
      go_ret
      refine ⟨rfl, HB.out.1, fun _ => ⟨w.heap.size, 0, rfl, HB.out.2.1, fun i hi => ?_⟩⟩
      have hi' : i < k := by simpa [ints] using hi
      rw [Nat.zero_add, (HB.out.2.2 i hi').1, if_pos hi']
      simp [ints]
end Go.Proofs.Ytjafcjnkefioeaa.Inf
/- What blocks of deflate stand for, in plain words: over all bits, a place, and what came; no program in sight. -/
namespace Go.Proofs.Ytjafcjnkefioeaa.Inf
open Go.Proofs.Ytjafcjnkefioeaa.Bit Go.Proofs.Ytjafcjnkefioeaa.Hf
abbrev R (α : Type) := Except Nat (α × Nat)
def R.then {α β : Type} (x : R α) (f : α → Nat → R β) : R β :=
  match x with
  | .ok (v, a) => f v a
  | .error e => .error e
theorem R.then_ok {α β : Type} (v : α) (a : Nat) (f : α → Nat → R β) : R.then (.ok (v, a)) f = f v a := rfl
theorem R.then_err {α β : Type} (e : Nat) (f : α → Nat → R β) : R.then (.error e : R α) f = .error e := rfl
def numR (L : List Bool) (at_ n : Nat) : R Nat := if at_ + n ≤ L.length then .ok (numE true ((L.drop at_).take n), at_ + n) else .error 2
def lookW (W : List (List Bool)) (p : List Bool) : List Bool → Except Nat (Nat × Nat)
  | [] => .error 2
  | b :: r => if p ++ [b] ∈ W then .ok (W.idxOf (p ++ [b]), p.length + 1)
      else if W.any (fun w => !w.isEmpty && (p ++ [b]).isPrefixOf w) then lookW W (p ++ [b]) r else .error 6
def nextR (W : List (List Bool)) (L : List Bool) (at_ : Nat) : R Nat :=
  match lookW W [] (L.drop at_) with
  | .ok (i, k) => .ok (i, at_ + k)
  | .error e => .error e
def lone (L : List Nat) : Bool := L.countP (fun n => decide (0 < n)) == 0 || (L.countP (fun n => decide (0 < n)) == 1 && L.sum == 1)
def wordsR (L : List Nat) (one : Bool) : Except Nat (List (List Bool)) :=
  if startN L 31 = 1073741824 ∨ (startN L 31 < 1073741824 ∧ one = true ∧ lone L = true) then .ok (canonW L) else .error 3
def froms (far : Bool) : List Nat :=
  if far then [1, 2, 3, 4, 5, 7, 9, 13, 17, 25, 33, 49, 65, 97, 129, 193, 257, 385, 513, 769, 1025, 1537, 2049, 3073, 4097, 6145, 8193, 12289, 16385, 24577]
  else [3, 4, 5, 6, 7, 8, 9, 10, 11, 13, 15, 17, 19, 23, 27, 31, 35, 43, 51, 59, 67, 83, 99, 115, 131, 163, 195, 227, 258]
def extras (far : Bool) : List Nat :=
  if far then [0, 0, 0, 0, 1, 1, 2, 2, 3, 3, 4, 4, 5, 5, 6, 6, 7, 7, 8, 8, 9, 9, 10, 10, 11, 11, 12, 12, 13, 13]
  else [0, 0, 0, 0, 0, 0, 0, 0, 1, 1, 1, 1, 2, 2, 2, 2, 3, 3, 3, 3, 4, 4, 4, 4, 5, 5, 5, 5, 0]
def order : List Nat := [16, 17, 18, 0, 8, 7, 9, 6, 10, 5, 11, 4, 12, 3, 13, 2, 14, 1, 15]
def fixedA : List Nat := List.replicate 144 8 ++ List.replicate 112 9 ++ List.replicate 24 7 ++ List.replicate 8 8
def fixedB : List Nat := List.replicate 30 5
def bytesR (L : List Bool) (most : Nat) : Nat → Nat → List UInt8 → R (List UInt8)
  | 0, at_, out => .ok (out, at_)
  | n + 1, at_, out => (numR L at_ 8).then fun c a => if most ≤ out.length then .error 8 else bytesR L most n a (out ++ [UInt8.ofNat c])
def twoR (L : List Bool) (at_ : Nat) : R (Nat × Nat) :=
  if (at_ + 7) / 8 * 8 + 32 ≤ L.length then
    .ok ((numE true ((L.drop ((at_ + 7) / 8 * 8)).take 16), numE true ((L.drop ((at_ + 7) / 8 * 8 + 16)).take 16)), (at_ + 7) / 8 * 8 + 32)
  else .error 2
def storedR (L : List Bool) (most at_ : Nat) (out : List UInt8) : R (List UInt8) :=
  (twoR L at_).then fun nm a => if nm.1 + nm.2 = 65535 then bytesR L most nm.1 a out else .error 3
def timesV (v : Nat) : Nat := if v = 16 then 3 else if v = 17 then 3 else if v = 18 then 11 else 1
def wideV (v : Nat) : Nat := if v = 16 then 2 else if v = 17 then 3 else if v = 18 then 7 else 0
def valueV (v : Nat) (all : List Nat) : Nat := if v = 16 then all.getLastD 0 else if v = 17 then 0 else if v = 18 then 0 else v
theorem timesV_pos (v : Nat) : 1 ≤ timesV v := by unfold timesV; split <;> (try split) <;> (try split) <;> omega
def lensR (W : List (List Bool)) (n : Nat) (L : List Bool) : Nat → Nat → List Nat → R (List Nat)
  | 0, _, _ => .error 0
  | f + 1, at_, all =>
    if n ≤ all.length then (if all.length = n then .ok (all, at_) else .error 3)
    else (nextR W L at_).then fun v a =>
      if v = 16 ∧ all = [] then .error 3
      else (numR L a (wideV v)).then fun more a => lensR W n L f a (all ++ List.replicate (timesV v + more) (valueV v all))
def numberR (far : Bool) (L : List Bool) (i at_ : Nat) : R Nat :=
  if i < (froms far).length then (numR L at_ ((extras far).getD i 0)).then fun more a => .ok ((froms far).getD i 0 + more, a) else .error 6
def copyN (out : List UInt8) (d : Nat) : Nat → List UInt8
  | 0 => out
  | n + 1 => copyN (out ++ [out.getD (out.length - d) 0]) d n
theorem copyN_length (d : Nat) : ∀ (n : Nat) (out : List UInt8), (copyN out d n).length = out.length + n
  | 0, out => rfl
  | n + 1, out => by rw [copyN, copyN_length d n]; simp; omega
def blockR (A B : List (List Bool)) (L : List Bool) (most : Nat) : Nat → Nat → List UInt8 → R (List UInt8)
  | 0, _, _ => .error 0
  | f + 1, at_, out => (nextR A L at_).then fun v a =>
    if v = 256 then .ok (out, a)
    else if v < 256 then (if most ≤ out.length then .error 8 else blockR A B L most f a (out ++ [UInt8.ofNat v]))
    else (numberR false L (v - 257) a).then fun n a => (nextR B L a).then fun k a => (numberR true L k a).then fun d a =>
      if out.length < d then .error 3 else if most < out.length + n then .error 8 else blockR A B L most f a (copyN out d n)
def threeR (L : List Bool) (at_ : Nat) : R (Nat × Nat × Nat) :=
  if at_ + 14 ≤ L.length then
    .ok ((numE true ((L.drop at_).take 5) + 257, numE true ((L.drop (at_ + 5)).take 5) + 1, numE true ((L.drop (at_ + 10)).take 4) + 4), at_ + 14)
  else .error 2
def metaR (L : List Bool) : Nat → Nat → Nat → List Nat → R (List Nat)
  | 0, _, at_, l => .ok (l, at_)
  | k + 1, i, at_, l => (numR L at_ 3).then fun n a => metaR L k (i + 1) a (l.set (order.getD i 0) n)
def withW {β : Type} (x : Except Nat (List (List Bool))) (f : List (List Bool) → R β) : R β :=
  match x with
  | .ok W => f W
  | .error e => .error e
def toldR (L : List Bool) (most : Nat) (f at_ : Nat) (out : List UInt8) : R (List UInt8) :=
  (threeR L at_).then fun n a =>
    if n.1 > 286 ∨ n.2.1 > 30 then .error 3
    else (metaR L n.2.2 0 a (List.replicate 19 0)).then fun l a => withW (wordsR l false) fun W =>
      (lensR W (n.1 + n.2.1) L (n.1 + n.2.1 + 1) a []).then fun all a =>
        if all.getD 256 0 = 0 then .error 3
        else withW (wordsR (all.take n.1) false) fun A => withW (wordsR (all.drop n.1) true) fun B => blockR A B L most f a out
def oneR (L : List Bool) (most : Nat) (f h at_ : Nat) (out : List UInt8) : R (List UInt8) :=
  if h / 2 = 0 then storedR L most at_ out
  else if h / 2 = 1 then blockR (canonW fixedA) (canonW fixedB) L most f at_ out
  else if h / 2 = 2 then toldR L most f at_ out
  else .error 3
def inflR (L : List Bool) (most : Nat) (g : Nat) : Nat → Nat → List UInt8 → R (List UInt8)
  | 0, _, _ => .error 0
  | f + 1, at_, out => (numR L at_ 3).then fun h a => (oneR L most g h a out).then fun o a =>
    if h % 2 = 1 then .ok (o, a) else inflR L most g f a o
def inflate (xs : List UInt8) (most : Nat) : Except Nat (List UInt8 × Nat) :=
  match inflR (bitsOf true xs) most (8 * xs.length + 1) (8 * xs.length + 1) 0 [] with
  | .ok (o, a) => .ok (o, (a + 7) / 8)
  | .error e => .error e
/- what is behind doesn't matter; what is cut off is missed -/
def Hon {α : Type} (at_ : Nat) (p : List Bool → R α) : Prop :=
  ∀ L, at_ ≤ L.length → (∀ v a, p L = .ok (v, a) → at_ ≤ a ∧ a ≤ L.length) ∧ ∀ r, p L = .error 2 ∨ p (L ++ r) = p L
theorem Hon.err {α : Type} (at_ e : Nat) : Hon at_ (fun _ => (.error e : R α)) := fun L hL => ⟨(by intro v a h; cases h), fun r => .inr rfl⟩
theorem Hon.ok {α : Type} (at_ : Nat) (v : α) : Hon at_ (fun _ => .ok (v, at_)) := fun L hL => ⟨(by intro w a h; cases h; exact ⟨Nat.le_refl _, hL⟩), fun r => .inr rfl⟩
theorem Hon.then {α β : Type} {at_ : Nat} {p : List Bool → R α} {f : List Bool → α → Nat → R β} (hp : Hon at_ p) (hf : ∀ v a, at_ ≤ a → Hon a (fun L => f L v a)) :
    Hon at_ (fun L => (p L).then (f L)) := by
  intro L hL
  obtain ⟨h1, h2⟩ := hp L hL
  refine ⟨fun v a h => ?_, fun r => ?_⟩
  · cases hx : p L with
    | error e => simp only [hx, R.then_err] at h; cases h
    | ok x =>
      obtain ⟨w, b⟩ := x
      simp only [hx, R.then_ok] at h
      obtain ⟨g1, g2⟩ := h1 w b hx
      obtain ⟨k1, _⟩ := hf w b g1 L g2
      obtain ⟨m1, m2⟩ := k1 v a h
      exact ⟨by omega, m2⟩
  · rcases h2 r with h | h
    · left; simp only [h, R.then_err]
    · simp only [h]
      cases hx : p L with
      | error e => right; simp only [R.then_err]
      | ok x =>
        obtain ⟨w, b⟩ := x
        simp only [R.then_ok]
        obtain ⟨g1, g2⟩ := h1 w b hx
        exact (hf w b g1 L g2).2 r
theorem Hon.ite {α : Type} {at_ : Nat} {c : Prop} [Decidable c] {p q : List Bool → R α} (hp : Hon at_ p) (hq : Hon at_ q) : Hon at_ (fun L => if c then p L else q L) := by
  by_cases h : c
  · simpa only [h, if_true] using hp
  · simpa only [h, if_false] using hq
theorem Hon.cut {α : Type} {at_ n : Nat} {f : List Bool → α} (h : at_ ≤ n) (hf : ∀ L r, n ≤ L.length → f (L ++ r) = f L) :
    Hon at_ (fun L => if n ≤ L.length then .ok (f L, n) else (.error 2 : R α)) := by
  intro L hL
  refine ⟨fun v a e => ?_, fun r => ?_⟩
  · by_cases hn : n ≤ L.length
    · simp only [hn, if_true] at e; cases e; exact ⟨h, hn⟩
    · simp only [hn, if_false] at e; cases e
  · by_cases hn : n ≤ L.length
    · right
      simp only [hn, if_true, List.length_append]
      rw [if_pos (by omega), hf L r hn]
    · left; simp only [hn, if_false]
theorem part_more (L r : List Bool) (a n : Nat) (h : a + n ≤ L.length) : ((L ++ r).drop a).take n = (L.drop a).take n := by
  rw [List.drop_append_of_le_length (by omega), List.take_append_of_le_length (by simp; omega)]
theorem hon_num (at_ n : Nat) : Hon at_ (fun L => numR L at_ n) := by
  unfold numR
  exact Hon.cut (by omega) fun L r h => by rw [part_more L r at_ n h]
theorem look_le (W : List (List Bool)) : ∀ (l p : List Bool) (i k : Nat), lookW W p l = .ok (i, k) → p.length + 1 ≤ k ∧ k ≤ p.length + l.length := by
  intro l
  induction l with
  | nil => intro p i k h; cases h
  | cons b t ih =>
    intro p i k h
    rw [lookW] at h
    split at h
    · cases h; simp
    · split at h
      · have := ih _ i k h
        simp at this ⊢
        omega
      · cases h
theorem look_more (W : List (List Bool)) (r : List Bool) : ∀ (l p : List Bool), lookW W p l = .error 2 ∨ lookW W p (l ++ r) = lookW W p l := by
  intro l
  induction l with
  | nil => intro p; exact .inl rfl
  | cons b t ih =>
    intro p
    rw [List.cons_append, lookW, lookW]
    split
    · exact .inr rfl
    · split
      · exact ih _
      · exact .inr rfl
theorem next_lt {W : List (List Bool)} {L : List Bool} {at_ v a : Nat} (h : nextR W L at_ = .ok (v, a)) : at_ < a := by
  unfold nextR at h
  cases hx : lookW W [] (L.drop at_) with
  | error e => rw [hx] at h; cases h
  | ok x =>
    obtain ⟨i, k⟩ := x
    rw [hx] at h
    cases h
    have := (look_le W _ _ _ _ hx).1
    simp at this
    omega
theorem hon_next (W : List (List Bool)) (at_ : Nat) : Hon at_ (fun L => nextR W L at_) := by
  intro L hL
  refine ⟨fun v a h => ?_, fun r => ?_⟩
  · change nextR W L at_ = _ at h
    unfold nextR at h
    cases hx : lookW W [] (L.drop at_) with
    | error e => rw [hx] at h; cases h
    | ok x =>
      obtain ⟨i, k⟩ := x
      rw [hx] at h
      cases h
      have := look_le W _ _ _ _ hx
      simp at this
      omega
  · change nextR W L at_ = _ ∨ nextR W (L ++ r) at_ = nextR W L at_
    unfold nextR
    rw [List.drop_append_of_le_length hL]
    rcases look_more W r (L.drop at_) [] with h | h
    · left; rw [h]
    · right; rw [h]
theorem hon_bytes (most : Nat) : ∀ (n at_ : Nat) (out : List UInt8), Hon at_ (fun L => bytesR L most n at_ out)
  | 0, at_, out => Hon.ok at_ out
  | n + 1, at_, out => (hon_num at_ 8).then fun c a ha => Hon.ite (Hon.err a 8) (hon_bytes most n a _)
theorem hon_two (at_ : Nat) : Hon at_ (fun L => twoR L at_) := by
  unfold twoR
  exact Hon.cut (by omega) fun L r h => by rw [part_more L r _ 16 (by omega), part_more L r _ 16 (by omega)]
theorem hon_stored (most at_ : Nat) (out : List UInt8) : Hon at_ (fun L => storedR L most at_ out) :=
  (hon_two at_).then fun nm a ha => Hon.ite (hon_bytes most _ a out) (Hon.err a 3)
theorem hon_lens (W : List (List Bool)) (n : Nat) : ∀ (f at_ : Nat) (all : List Nat), Hon at_ (fun L => lensR W n L f at_ all)
  | 0, at_, all => Hon.err at_ 0
  | f + 1, at_, all => Hon.ite (Hon.ite (Hon.ok at_ all) (Hon.err at_ 3)) ((hon_next W at_).then fun v a ha => Hon.ite (Hon.err a 3) ((hon_num a _).then fun m b hb => hon_lens W n f b _))
theorem hon_number (far : Bool) (i at_ : Nat) : Hon at_ (fun L => numberR far L i at_) :=
  Hon.ite ((hon_num at_ _).then fun m a ha => Hon.ok a _) (Hon.err at_ 6)
theorem hon_block (A B : List (List Bool)) (most : Nat) : ∀ (f at_ : Nat) (out : List UInt8), Hon at_ (fun L => blockR A B L most f at_ out)
  | 0, at_, out => Hon.err at_ 0
  | f + 1, at_, out => (hon_next A at_).then fun v a ha => Hon.ite (Hon.ok a out) (Hon.ite (Hon.ite (Hon.err a 8) (hon_block A B most f a _))
      ((hon_number false _ a).then fun n b hb => (hon_next B b).then fun k c hc => (hon_number true k c).then fun d e he => Hon.ite (Hon.err e 3) (Hon.ite (Hon.err e 8) (hon_block A B most f e _))))
theorem hon_three (at_ : Nat) : Hon at_ (fun L => threeR L at_) := by
  unfold threeR
  exact Hon.cut (by omega) fun L r h => by rw [part_more L r _ 5 (by omega), part_more L r _ 5 (by omega), part_more L r _ 4 (by omega)]
theorem hon_meta : ∀ (k i at_ : Nat) (l : List Nat), Hon at_ (fun L => metaR L k i at_ l)
  | 0, i, at_, l => Hon.ok at_ l
  | k + 1, i, at_, l => (hon_num at_ 3).then fun n a ha => hon_meta k (i + 1) a _
theorem Hon.withW {β : Type} {at_ : Nat} {x : Except Nat (List (List Bool))} {f : List Bool → List (List Bool) → R β} (h : ∀ W, Hon at_ (fun L => f L W)) : Hon at_ (fun L => withW x (f L)) := by
  cases x with
  | error e => exact Hon.err at_ e
  | ok W => exact h W
theorem hon_told (most f at_ : Nat) (out : List UInt8) : Hon at_ (fun L => toldR L most f at_ out) :=
  (hon_three at_).then fun n a ha => Hon.ite (Hon.err a 3) ((hon_meta _ 0 a _).then fun l b hb => Hon.withW fun W => (hon_lens W _ _ b []).then fun all c hc =>
    Hon.ite (Hon.err c 3) (Hon.withW fun A => Hon.withW fun B => hon_block A B most f c out))
theorem hon_one (most f h at_ : Nat) (out : List UInt8) : Hon at_ (fun L => oneR L most f h at_ out) :=
  Hon.ite (hon_stored most at_ out) (Hon.ite (hon_block _ _ most f at_ out) (Hon.ite (hon_told most f at_ out) (Hon.err at_ 3)))
end Go.Proofs.Ytjafcjnkefioeaa.Inf
/- slices.Concat over rows of numbers; the contract of Fixed and of Order. -/
namespace Go.Proofs.Ytjafcjnkefioeaa.Inf
open Go.RowKit Go.Shelf Go.Proofs.Ytjafcjnkefioeaa.Oct Go.Proofs.Ytjafcjnkefioeaa.Bit Go.Proofs.Ytjafcjnkefioeaa.Hf
set_option maxRecDepth 100000
def renI : Ren := ⟨fun n => if n = 4 then 54 else n, fun n => if n = 22 then 51 else if n = 25 then 3 else if n = 3 then 3 else if n = 4 then 4 else if n = 9 then 9 else if n = 20 then 20 else n, fun n => n⟩
theorem laysI : Lays8.n4 Try.prog renI where
  mixed := by kernel_rfl
  f4 := ⟨ "slices.Grow[[]int,int]", by kernel_rfl, by kernel_rfl⟩
  t0 := by kernel_rfl
  a0 _ := by kernel_rfl
  z0 _ := by kernel_rfl
  v0 _ := by kernel_rfl
  t3 := by kernel_rfl
  a3 _ := by kernel_rfl
  z3 _ := by kernel_rfl
  v3 _ := by kernel_rfl
  t4 := by kernel_rfl
  a4 _ := by kernel_rfl
  z4 _ := by kernel_rfl
  v4 _ := by kernel_rfl
  t9 := by kernel_rfl
  a9 _ := by kernel_rfl
  z9 _ := by kernel_rfl
  v9 _ := by kernel_rfl
  t20 := by kernel_rfl
  a20 _ := by kernel_rfl
  z20 _ := by kernel_rfl
  v20 _ := by kernel_rfl
  t22 := by kernel_rfl
  a22 _ := by kernel_rfl
  z22 _ := by kernel_rfl
  v22 _ := by kernel_rfl
def IOwn (w : World) (base : Nat) (v : Value) (zs : List Int) : Prop := w.ownsRow base 3 1 v zs.length (ints zs)
def GrowP8 (w : World) (e : Ending) (w' : World) : Prop := ∃ v, e = .returned v ∧ IOwn w' w.heap.size v [] ∧ Below w.heap.size w w'
theorem growI_any (n : Nat) (w : World) (hn : n ≤ 1000000) : Calls Try.prog 54 #[.slice none 0 0, .int .i64 (n : Int)] w (GrowP8 w) := by
  obtain ⟨i0, hi, hz0, hz1, hz2⟩ := info_parts Try.infoInt
  have e : renI.f 4 = 54 := rfl
  rcases Nat.eq_zero_or_pos n with h0 | h0
  · have h := Any8.slices_Grow_room laysI none 0 0 n w (by omega) (by omega) (by omega) (by omega)
    rw [e] at h
    refine h.mono ?_
    rintro e w' ⟨rfl, rfl⟩
    exact ⟨_, rfl, ⟨rfl, .inl ⟨rfl, rfl⟩⟩, Below.refl _ _⟩
  · have h := Any8.slices_Grow_grow laysI i0 _ hi hz0 (by omega) none 0 0 n [] w (by omega) (by omega) (by rw [hz2]; omega) (by omega) (by simp) (fun _ => rfl) (fun a h => by cases h)
    rw [e] at h
    refine h.mono ?_
    rintro e w' ⟨rfl, rfl⟩
    refine ⟨_, rfl, ?_, ((Below.refl _ w).drew).alloc (Nat.le_refl _) _⟩
    have hm := World.ownsRow_made (size := 1) (w := w.drew) (base := w.heap.size) (e := 3) (([] : List Value).toArray ++ Builtin.zeroCells (Value.int .i64 0).cells (0 + n - 0) ++ Builtin.zeroCells (Value.int .i64 0).cells (grownCap w (0 + n) 0 3 - (0 + n))) (grownCap w (0 + n) 0 3) (Nat.le_refl _) (grownCap_le_maxLen _ _ _ _ (by unfold maxLen; omega)) ?_
    · exact hm
    · have hge := grownCap_ge w (0 + n) 0 3
      rw [Nat.zero_add] at hge
      simp [Builtin.zeroCells, Value.cells]
      omega
def CatP8 (w : World) (zs : List Int) (e : Ending) (w' : World) : Prop := ∃ v, e = .returned v ∧ IOwn w' w.heap.size v zs ∧ Below w.heap.size w w'
def RowsAt (w : World) (sb : Nat) (R : List (List Int)) : Prop := ∀ k (h : k < R.length), ∃ p cc, w.cell? ⟨sb, k, none⟩ = some (.slice p R[k].length cc) ∧ VRow w w.heap.size p (ints R[k]) ∧ (p = none → cc = 0) ∧ R[k].length ≤ 1000
theorem take_flat (R : List (List Int)) (k : Nat) (h : k < R.length) : (R.take (k + 1)).flatten = (R.take k).flatten ++ R[k] := by
  rw [List.take_succ_eq_append_getElem h, List.flatten_append]
  simp
theorem flat_len (R : List (List Int)) (hl : R.length ≤ 10) (h : ∀ k (h : k < R.length), R[k].length ≤ 1000) (k : Nat) (hk : k ≤ R.length) : (R.take k).flatten.length ≤ 1000 * k := by
  induction k with
  | zero => simp
  | succ k ih =>
    rw [take_flat R k (by omega), List.length_append]
    have := ih (by omega)
    have := h k (by omega)
    omega
set_option maxHeartbeats 4000000 in
theorem concatI_any (sb c : Nat) (R : List (List Int)) (w : World) (hsb : sb < w.heap.size) (hR : RowsAt w sb R) (hl : R.length ≤ 10) (h1 : 1 ≤ R.length) :
    Calls Try.prog 35 #[.slice (some ⟨sb, 0, none⟩) R.length c] w (CatP8 w R.flatten) := by
  obtain ⟨i0, hi, hz0, hz1, hz2⟩ := info_parts Try.infoInt
  have HR := Lib.hid hR
  have HFL := Lib.hid (flat_len R hl (fun k h => by obtain ⟨_, _, _, _, _, h5⟩ := hR k h; exact h5))
  obtain ⟨N, hN⟩ : ∃ N, N = R.length := ⟨_, rfl⟩
  rw [← hN]
  have hN10 : N ≤ 10 := by omega
  have HN := Lib.hid hN
  clear hR hl hN h1
  go_enter Try.func35, Try.ntmps35
  go_wp2
  go_loopg [3, 11] N (fun kx s3 s11 wr => ∃ (k s : Nat), s11 = .int .i64 (k : Int) ∧ s3 = .int .i64 (s : Int) ∧ k ≤ N ∧ N - k ≤ kx ∧ Hid (s = (R.take k).flatten.length) ∧ s ≤ 10000 ∧ w = wr)
  case atStart => exact ⟨0, 0, rfl, rfl, by omega, by omega, Lib.hid (by simp), by omega, rfl⟩
  case round =>
    obtain ⟨k, s, rfl, rfl, hk, hkx, HS, hs, rfl⟩ := hrel
    by_cases hlt : k < N
    · have hkz : (k : Int) < (N : Int) := by omega
      have hk0 : (0 : Int) ≤ (k : Int) := by omega
      have hkR : k < R.length := by rw [← HN.out]; exact hlt
      obtain ⟨p, cc, hc, hv0, hp0, hn⟩ := HR.out k hkR
      clear hv0 hp0
      have hss : s + R[k].length = (R.take (k + 1)).flatten.length := by rw [take_flat R k hkR, List.length_append, ← HS.out]
      have HSS := Lib.hid hss
      have hs2 : s + R[k].length ≤ 10000 := by
        rw [hss]
        have := HFL.out (k + 1) (by omega)
        omega
      generalize R[k].length = n at hc hn HSS hs2
      have ws : IntKind.i64.wrap ((s : Int) + (n : Int)) = ((s + n : Nat) : Int) := by rw [IntKind.wrap_i64]; omega
      obtain ⟨sn, hsn⟩ : ∃ sn, sn = s + n := ⟨_, rfl⟩
      rw [← hsn] at ws HSS hs2
      have hneg : ¬ (sn : Int) < 0 := by omega
      clear hss hsn hkR
      go_wp2
      go_roundg (N - (k + 1))
      case measure => omega
      case rel => exact ⟨k + 1, sn, by go_num, rfl, by omega, Nat.le_refl _, HSS, hs2, rfl⟩
    · have hkz : ¬ (k : Int) < (N : Int) := by omega
      have hk2 : k = N := by omega
      have hg := growI_any s w (by omega)
      go_wp2_with (go_at_call 54; refine hg.mono ?_; rintro e w' ⟨v, rfl, ho, hb⟩)
      go_loopg [6, 27] N (fun kx s6 s27 wr => ∃ (k : Nat), s27 = .int .i64 (k : Int) ∧ k ≤ N ∧ N - k ≤ kx ∧ Hid (IOwn wr w.heap.size s6 (R.take k).flatten ∧ Below w.heap.size w wr))
      case atStart => exact ⟨0, rfl, by omega, by omega, Lib.hid ⟨by simpa using ho, hb⟩⟩
      case round =>
        clear ho hb
        obtain ⟨k', rfl, hk', hkx', HT⟩ := hrel
        by_cases hlt' : k' < N
        · have hkz' : (k' : Int) < (N : Int) := by omega
          have hk0' : (0 : Int) ≤ (k' : Int) := by omega
          have hkR : k' < R.length := by rw [← HN.out]; exact hlt'
          obtain ⟨p, cc, hc, hv, hp0, hn⟩ := HR.out k' hkR
          have hcw : wr.cell? ⟨sb, k', none⟩ = some (Value.slice p R[k'].length cc) := (HT.out.2.cell (p := ⟨sb, k', none⟩) hsb).trans hc
          have HV := Lib.hid ((hv.below HT.out.2 (Nat.le_refl _)).mono HT.out.2.size)
          have HP0 := Lib.hid hp0
          have hfl := HFL.out k' (by omega)
          have HTF := Lib.hid (take_flat R k' hkR)
          obtain ⟨z, hz⟩ : ∃ z, z = R[k'] := ⟨_, rfl⟩
          rw [← hz] at hcw HV hn HTF
          clear hc hv hp0 hz
          go_wp2_with (at_builtin; refine wpList_append_vals Try.underlying51 hi hz0 hz1 hz2 rfl (by decide) rfl _ _ rfl w.heap.size _ (R.take k').flatten.length (ints (R.take k').flatten) rfl HT.out.1 p z.length cc (ints z) rfl HV.out (ints_length _) HP0.out ints_one (by omega) HT.out.2.size ?_; intro v2 w2 ho2 hg2 hb2)
          have HX : Hid (IOwn w2 w.heap.size v2 (R.take (k' + 1)).flatten ∧ Below w.heap.size w w2) := Lib.hid ⟨by
            unfold IOwn
            rw [HTF.out, List.length_append, ints_append]
            exact ho2, HT.out.2.trans hb2⟩
          clear ho2 hg2 hb2
          go_roundg (N - (k' + 1))
          case measure => omega
          case rel => exact ⟨k' + 1, by go_num, by omega, Nat.le_refl _, HX⟩
        · have hkz' : ¬ (k' : Int) < (N : Int) := by omega
          have hk2' : k' = N := by omega
          go_wp2
          go_ret
          refine ⟨_, rfl, ?_⟩
          have := HT.out
          rwa [hk2', HN.out, List.take_length] at this
end Go.Proofs.Ytjafcjnkefioeaa.Inf
