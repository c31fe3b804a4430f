/- DfK, DfL, DgC, DgD, DgS: merged. -/
import Derived.ChangeSlices
import Derived.Lib.BufferMore
import Derived.Test.YtkkfkmoikcmhoaaGreatQaa
import Derived.Test.YtkkfkmoikcmhoaaGreatQab
import Derived.Test.YtkkfkmoikcmhoaaGreatQac
import Derived.Test.YtkkfkmoikcmhoaaGreatQag
import Derived.Test.YtkkfkmoikcmhoaaGreatQah
import Derived.Test.YtkkfkmoikcmhoaaGreatQak
import Derived.Test.YtkkfkmoikcmhoaaGreatQal
import Derived.Test.YtkkfkmoikcmhoaaGreatQam
import Derived.Test.YtkkfkmoikcmhoaaGreatQao
set_option linter.unusedVariables false
set_option linter.unusedSimpArgs false
namespace Go.Proofs.YtkkfkmoikcmhoaaGreat.Df
open Go.RowKit Oct Bit Hf Inf
set_option maxRecDepth 100000
def shA (p : Option Addr) (k : Nat) : Option Addr := if k = 0 then p else p.map (·.add k)
theorem Yjd (p : Option Addr) : shA p 0 = p := by unfold shA; rw [if_pos rfl]
theorem Y8l (b off k : Nat) : shA (some ⟨b, off, none⟩) k = some ⟨b, off + k, none⟩ := by
 unfold shA
 split
 ·rename_i h; rw [h]; rfl
 ·simp [Y0i]
theorem Yc5 (w : World) (v : Value) (T : TypeId) : (w.alloc (.cells #[v] T)).cell? ⟨w.heap.size, 0, none⟩ = some v := by
 unfold World.cell?
 dsimp only
 rw [show (w.alloc (.cells #[v] T)).heap[w.heap.size]? = some (.cells #[v] T (0, 0)) from Array.getElem?_push_size]
 rfl
theorem Y3f {w : World} {ops : Array Oper} {rest : List Oper} {o : Oper} {a : Act} {Q : Exit → Act → World → Prop} {T e : TypeId} {i0 : TypeInfo} {z : Value}
  (hT : Tryz.prog.underlying T = some (.slice e)) (hi : Tryz.prog.info? e = some i0) (hz0 : i0.zero = some z) (hz1 : i0.size = 1) (hz2 : i0.bytes = 24) (hzc : z.cells = #[z])
  (hgd : o.guard = none) (s x : Operand)
  (ho : o.op = .call { callee := .builtin .append, args := #[s, x], argTypes := #[T, T] })
  (base : Nat) (v : Value) (n : Nat) (ys : List Value) (hs : a.eval s = v) (hown : w.ownsRow base e 1 v n ys)
  (ad : Addr) (xs : List Value) (hx : a.eval x = .slice (some ad) xs.length xs.length) (hr : ∀ j u, xs[j]? = some u → w.cell? (ad.add j) = some u) (h1 : ∀ u ∈ xs, u.oneCell' = true)
  (h47 : n + xs.length ≤ 1000000) (hbase : base ≤ w.heap.size)
  (h : ∀ v' w', w'.ownsRow base e 1 v' (n + xs.length) (ys ++ xs) → Below base w w' → wpList Tryz.prog ops Q rest (a.put o.dst v') w') :
  wpList Tryz.prog ops Q (o :: rest) a w := by
 refine wpList_append_own w hgd s x T ho base e i0 z 1 24 hT hi hz0 hz1 hz2 (by rw [hzc]; rfl) (by decide) v n ys hs hown ad xs.length xs.length xs hx (by omega) hr h1 (by unfold maxLen; omega) (by omega) hbase ?_
 intro v' w' h2 h3 h4
 exact h v' w' h2 (Y37 hown h3 hbase)
def lenS : Value → Nat
 | .slice _ n _ => n
 | _ => 0
theorem Tryz.infoB : (Tryz.prog.info? 22).map (fun i => (i.zero, i.size, i.bytes)) = some (some (.slice none 0 0), 1, 24) := by kernel_rfl
theorem Tryz.cellszB : (Tryz.prog.info? 5).map (·.size) = some 1 := by kernel_rfl
theorem Y2a (W : World) (b o len cap : Nat) (h : 65535 ≤ cap) :
  (Instr.slice 22 (.slice (some ⟨b, o, none⟩) len cap) none (some (.int .i64 65535)) none).run Tryz.prog W = .ok (.slice (some ⟨b, o, none⟩) 65535 cap) W := by
 have ht' : Tryz.prog.underlying 22 = some (.slice (Tryz.prog.elem 22)) := by kernel_rfl
 have he : Tryz.prog.elem 22 = 5 := by kernel_rfl
 have hz : (Go.sizeOf 5).run Tryz.prog W = .ok 1 W := by
  obtain ⟨i, hi, hs⟩ := Option.map_eq_some_iff.1 Tryz.cellszB
  simp [Go.sizeOf, typeInfo, hi, hs]
 rw [run_slice_h W 22 (some ⟨b, o, none⟩) len cap ht' .i64 _ (by omega) (by omega), he, hz]
 simp [Result.andThen, sliced, Y0i]
theorem tailB (W : World) (b o len cap : Nat) (h : 65535 < len) (hc : len ≤ cap) :
  (Instr.slice 22 (.slice (some ⟨b, o, none⟩) len cap) (some (.int .i64 65535)) none none).run Tryz.prog W = .ok (.slice (some ⟨b, o + 65535, none⟩) (len - 65535) (cap - 65535)) W := by
 have ht' : Tryz.prog.underlying 22 = some (.slice (Tryz.prog.elem 22)) := by kernel_rfl
 have he : Tryz.prog.elem 22 = 5 := by kernel_rfl
 have hz : (Go.sizeOf 5).run Tryz.prog W = .ok 1 W := by
  obtain ⟨i, hi, hs⟩ := Option.map_eq_some_iff.1 Tryz.cellszB
  simp [Go.sizeOf, typeInfo, hi, hs]
 rw [run_slice_l W 22 (some ⟨b, o, none⟩) len cap ht' .i64 _ (by omega) (by omega), he, hz]
 have hne : ¬ cap = 65535 := by omega
 simp [Result.andThen, sliced, Y0i, hne]
def Ycb (p : Option Addr) (n cap j : Nat) : Value := .slice (shA p (j * 65535)) (min 65535 (n - j * 65535)) (cap - j * 65535)
def numB (n : Nat) : Nat := (n - 1) / 65535 + 1
structure SplB (w wr : World) (p : Option Addr) (n cap j r cc : Nat) (A : Option Addr) (v : Value) : Prop where
 ea : A = shA p (j * 65535)
 er : r + j * 65535 = n
 ec : cc + j * 65535 = cap
 lt : j = 0 ∨ 0 < r
 own : wr.ownsRow w.heap.size 22 1 v j ((List.range j).map (Ycb p n cap))
 bel : Below w.heap.size w wr
def Ykf (w : World) (p : Option Addr) (n cap : Nat) (e : Ending) (w' : World) : Prop :=
 ∃ q c, e = .returned (.slice q (numB n) c) ∧ Below w.heap.size w w' ∧ Foot (At q) (fun w' => VRow w' w'.heap.size q ((List.range (numB n)).map (Ycb p n cap))) w' ∧ ∀ a, q = some a → w.heap.size ≤ a.block
theorem SplB.step {w wr w5 : World} {p : Option Addr} {n cap j r cc : Nat} {A A1 : Option Addr} {v v5 : Value} (h : SplB w wr p n cap j r cc A v) (hr : 65535 < r) (hrc : r ≤ cc) (hA : A1 = shA p ((j + 1) * 65535))
  (ho : w5.ownsRow w.heap.size 22 1 v5 (j + 1) ((List.range j).map (Ycb p n cap) ++ [.slice A 65535 cc])) (hb : Below w.heap.size w w5) : SplB w w5 p n cap (j + 1) (r - 65535) (cc - 65535) A1 v5 := by
 have e1 := h.er
 have e2 := h.ec
 refine ⟨hA, by omega, by omega, .inr (by omega), ?_, hb⟩
 rw [List.range_succ, List.map_append, List.map_cons, List.map_nil]
 have e : Ycb p n cap j = .slice A 65535 cc := by
  unfold Ycb
  rw [← h.ea, show min 65535 (n - j * 65535) = 65535 from by omega, show cap - j * 65535 = cc from by omega]
 rw [e]
 exact ho
theorem SplB.done {w wr w5 : World} {p : Option Addr} {n cap j r cc : Nat} {A : Option Addr} {v v5 : Value} (h : SplB w wr p n cap j r cc A v) (hr : r ≤ 65535)
  (ho : w5.ownsRow w.heap.size 22 1 v5 (j + 1) ((List.range j).map (Ycb p n cap) ++ [.slice A r cc])) (hb : Below w.heap.size w w5) : Ykf w p n cap (.returned v5) w5 := by
 have e1 := h.er
 have e2 := h.ec
 have e3 := h.lt
 have e : Ycb p n cap j = .slice A r cc := by
  unfold Ycb
  rw [← h.ea, show min 65535 (n - j * 65535) = r from by omega, show cap - j * 65535 = cc from by omega]
 have hK : numB n = j + 1 := by unfold numB; omega
 rw [← e] at ho
 have e4 : (List.range j).map (Ycb p n cap) ++ [Ycb p n cap j] = (List.range (j + 1)).map (Ycb p n cap) := by rw [List.range_succ, List.map_append]; rfl
 rw [e4] at ho
 obtain ⟨q, c, rfl, h1, h2, h3, h4, h5⟩ := Y0z ho (by simp)
 unfold Ykf
 rw [hK]
 exact ⟨q, c, rfl, hb, Yfc h4 (by simp), h5⟩
set_option maxHeartbeats 2000000 in
theorem Ye3 (w : World) (p : Option Addr) (n cap : Nat) (hp : 65535 < n → ∃ b off, p = some ⟨b, off, none⟩) (hn : n ≤ 1000000) (hc : n ≤ cap) (hc2 : cap ≤ maxLen) :
  Calls Tryz.prog 69 #[.slice p n cap, .int .i64 65535] w (Ykf w p n cap) := by
 obtain ⟨i0, hi, hz0, hz1, hz2⟩ := info_parts Tryz.infoB
 have HP := Lib.hid hp
 have hcm : cap ≤ 9223372036854775807 := by unfold maxLen at hc2; omega
 have HS0 : Hid (SplB w w p n cap 0 n cap p (.slice none 0 0)) := Lib.hid ⟨by rw [Nat.zero_mul, Yjd], by omega, by omega, .inl rfl, ⟨rfl, .inl ⟨rfl, rfl⟩⟩, Below.refl _ _⟩
 clear hp hc2
 go_enter Tryz.func69, Tryz.ntmps69
 go_wp2_with fail
 go_loopw [0, 5] (fun s0 s5 wr => ∃ (j r cc : Nat) (A : Option Addr) (v : Value), s0 = .slice A r cc ∧ s5 = v ∧ r ≤ n ∧ r ≤ cc ∧ cc ≤ cap ∧ j ≤ n ∧ Hid (SplB w wr p n cap j r cc A v)) (fun s0 _ _ => lenS s0)
 case atStart => exact ⟨0, n, cap, p, _, rfl, rfl, by omega, by omega, by omega, by omega, HS0⟩
 case round =>
  obtain ⟨j, r, cc, A, s5, rfl, hs5, hrn, hrc, hcc, hjn, HS⟩ := hrel
  have hs52 := hs5.symm
  subst hs52
  clear hs5 HS0
  by_cases hlt : 65535 < r
  ·have ql : decide ((65535 : Int) < (r : Int)) = true := decide_eq_true (by omega)
   have her := HS.out.er
   have hj1 : j + 1 ≤ n := by omega
   obtain ⟨b, off, hpe⟩ := HP.out (by omega)
   obtain ⟨o, ho⟩ : ∃ o, o = off + j * 65535 := ⟨_, rfl⟩
   have hA : A = some ⟨b, o, none⟩ := by rw [HS.out.ea, hpe, Y8l, ho]
   have HA1 : Hid (some ⟨b, o + 65535, none⟩ = shA p ((j + 1) * 65535)) := Lib.hid (by rw [hpe, Y8l, ho]; congr 2; omega)
   have HPE := Lib.hid hpe
   subst hA
   have hh := fun W => Y2a W b o r cc (by omega)
   have ht := fun W => tailB W b o r cc hlt hrc
   have hba : Below wr.heap.size wr (wr.alloc (.cells #[.slice (some ⟨b, o, none⟩) 65535 cc] 22)) := (Below.refl _ wr).alloc (Nat.le_refl _) _
   have HOW := Lib.hid (Y1s HS.out.own hba)
   have HBA := Lib.hid (HS.out.bel.trans (hba.mono HS.out.bel.size))
   have HJ := Lib.hid (show j + 1 ≤ 1000000 by omega)
   have HCE : Hid (∀ i u, [Value.slice (some ⟨b, o, none⟩) 65535 cc][i]? = some u → (wr.alloc (.cells #[.slice (some ⟨b, o, none⟩) 65535 cc] 22)).cell? ((⟨wr.heap.size, 0, none⟩ : Addr).add i) = some u) := Lib.hid fun i u hiu => by
    have hi0 : i = 0 := by have := (List.getElem?_eq_some_iff.1 hiu).1; simp at this; omega
    subst hi0
    rw [Y0i]
    have hu : Value.slice (some ⟨b, o, none⟩) 65535 cc = u := by simpa using hiu
    rw [← hu]
    exact Yc5 wr _ _
   clear hba ho hpe her
   go_wp2_with (at_builtin; refine Y3f Tryz.underlying93 hi hz0 hz1 hz2 rfl rfl _ _ rfl w.heap.size s5 j ((List.range j).map (Ycb p n cap)) rfl HOW.out ⟨wr.heap.size, 0, none⟩ [.slice (some ⟨b, o, none⟩) 65535 cc] rfl HCE.out (fun u hu => by rw [List.mem_singleton.1 hu]; rfl) HJ.out HBA.out.size ?_; intro v5 w5 ho5 hb5; have HO5 := Lib.hid ho5; have HB5 := Lib.hid (HBA.out.trans hb5); clear ho5 hb5)
   have HN := Lib.hid (HS.out.step hlt hrc HA1.out HO5.out HB5.out)
   clear hh HOW HCE
   go_roundw
   case rel => exact ⟨j + 1, r - 65535, cc - 65535, _, v5, rfl, rfl, by omega, by omega, by omega, by omega, HN⟩
   case measure => simp [lenS]; omega
  ·have ql : decide ((65535 : Int) < (r : Int)) = false := decide_eq_false (by omega)
   have hba : Below wr.heap.size wr (wr.alloc (.cells #[.slice A r cc] 22)) := (Below.refl _ wr).alloc (Nat.le_refl _) _
   have HOW := Lib.hid (Y1s HS.out.own hba)
   have HBA := Lib.hid (HS.out.bel.trans (hba.mono HS.out.bel.size))
   have her := HS.out.er
   have HJ := Lib.hid (show j + 1 ≤ 1000000 + 1 by omega)
   have HCE : Hid (∀ i u, [Value.slice A r cc][i]? = some u → (wr.alloc (.cells #[.slice A r cc] 22)).cell? ((⟨wr.heap.size, 0, none⟩ : Addr).add i) = some u) := Lib.hid fun i u hiu => by
    have hi0 : i = 0 := by have := (List.getElem?_eq_some_iff.1 hiu).1; simp at this; omega
    subst hi0
    rw [Y0i]
    have hu : Value.slice A r cc = u := by simpa using hiu
    rw [← hu]
    exact Yc5 wr _ _
   have HJ2 := Lib.hid (show j + 1 ≤ 1000000 by have := HS.out.lt; omega)
   clear hba her
   go_wp2_with (at_builtin; refine Y3f Tryz.underlying93 hi hz0 hz1 hz2 rfl rfl _ _ rfl w.heap.size s5 j ((List.range j).map (Ycb p n cap)) rfl HOW.out ⟨wr.heap.size, 0, none⟩ [.slice A r cc] rfl HCE.out (fun u hu => by rw [List.mem_singleton.1 hu]; rfl) HJ2.out HBA.out.size ?_; intro v5 w5 ho5 hb5; have HO5 := Lib.hid ho5; have HB5 := Lib.hid (HBA.out.trans hb5); clear ho5 hb5)
   have HN := Lib.hid (HS.out.done (by omega) HO5.out HB5.out)
   clear HOW HCE
   go_ret
   exact HN.out
end Go.Proofs.YtkkfkmoikcmhoaaGreat.Df
namespace Go.Proofs.YtkkfkmoikcmhoaaGreat.Df
open Go.RowKit Oct Bit Hf Inf
set_option maxRecDepth 100000
structure Und (w wr : World) (E0 : Ke) (v v' : Value) (l : List Bool) : Prop where
 en : En wr E0 v' l
 only : Only (Mine E0.gw v) w wr
 own : ∀ k, v'.ownBlock = some k → v.ownBlock = some k ∨ w.heap.size ≤ k
section
variable {w wr w2 : World} {E0 : Ke} {v v' : Value} {l l2 : List Bool}
theorem Und.start (h : En w E0 v l) : Und w w E0 v v l := ⟨h, Only.refl _ _, fun _ h => .inl h⟩
theorem Und.more (h : Und w wr E0 v v' l) (ht : EnT wr E0 v' l2 w2) : ∃ v2, Und w w2 E0 v v2 l2 := by
 obtain ⟨v2, a, b, c⟩ := EnT.more h.only h.own ht
 exact ⟨v2, a, b, c⟩
theorem Und.foot {F : Nat → Prop} {P : World → Prop} (h : Und w wr E0 v v' l) (hF : Foot F P w) (hf : Far E0 v F) : Foot F P wr := hF.ent hf h.only
theorem Und.ent (h : Und w wr E0 v v' l) : EnT w E0 v l wr := ⟨v', h.en, h.only, h.own⟩
end
theorem Ylj {w : World} {C : Nat} {q : Option Addr} {vs : List Value} (h : VRow w C q vs) (j : Nat) (hj : j < vs.length) : ∃ b off, q = some ⟨b, off, none⟩ ∧ w.cell? ⟨b, off + j, none⟩ = some vs[j] := by
 obtain ⟨b, off, e, _, hc⟩ := h (by omega)
 exact ⟨b, off, e, hc j hj⟩
def Yl6 (xs : List UInt8) (j : Nat) : List UInt8 := (xs.drop (j * 65535)).take 65535
theorem Y3b (xs : List UInt8) (j : Nat) : (Yl6 xs j).length = min 65535 (xs.length - j * 65535) := by unfold Yl6; rw [List.length_take, List.length_drop]
theorem Yj9 {w : World} {p : Option Addr} {xs : List UInt8} (h : Row w p xs) (j : Nat) : Row w (shA p (j * 65535)) (Yl6 xs j) := by
 intro hp
 rw [Y3b] at hp
 obtain ⟨b, off, rfl, hb, hc⟩ := h (by omega)
 refine ⟨b, off + j * 65535, Y8l _ _ _, hb, fun i hi => ?_⟩
 have hi2 := hi
 rw [Y3b] at hi2
 rw [Nat.add_assoc, hc (j * 65535 + i) (by omega)]
 simp [Yl6]
def Yal (xs : List UInt8) : Nat → List UInt8
 | 0 => []
 | j + 1 => Yal xs j ++ Yeh (decide (j + 1 = numB xs.length)) (Yl6 xs j)
theorem Y8o (xs : List UInt8) : ∀ j, (Yal xs j).length ≤ j * 65540
 | 0 => Nat.zero_le _
 | j + 1 => by
  have h1 := Y8o xs j
  have h2 := Y3b xs j
  rw [Yal, List.length_append, Y18]
  omega
theorem Ya4 (xs : List UInt8) (M : Nat) (hM : M = 65535) (h : ¬ xs.length ≤ M) : Y5d xs = Yeh false (xs.take M) ++ Y5d (xs.drop M) := by
 subst hM
 rw [Y5d, dif_neg h]
theorem Ygr (xs : List UInt8) : ∀ j, j + 1 ≤ numB xs.length → Yal xs j ++ Y5d (xs.drop (j * 65535)) = Y5d xs
 | 0, h => by rw [Nat.zero_mul, List.drop_zero, Yal, List.nil_append]
 | j + 1, h => by
  have ih := Ygr xs j (by omega)
  unfold numB at h
  have hl : ¬ (xs.drop (j * 65535)).length ≤ 65535 := by rw [List.length_drop]; omega
  rw [← ih, Ya4 _ 65535 rfl hl, Yal, List.append_assoc, List.drop_drop, show decide (j + 1 = numB xs.length) = false from by unfold numB; exact decide_eq_false (by omega), show (j + 1) * 65535 = j * 65535 + 65535 from by omega]
  rfl
theorem Ycj (xs : List UInt8) : Yal xs (numB xs.length) = Y5d xs := by
 obtain ⟨j, hj⟩ : ∃ j, numB xs.length = j + 1 := ⟨(xs.length - 1) / 65535, rfl⟩
 have h := Ygr xs j (by omega)
 unfold numB at hj
 have hl : (xs.drop (j * 65535)).length ≤ 65535 := by rw [List.length_drop]; omega
 rw [Y23 _ hl] at h
 rw [show numB xs.length = j + 1 from hj, Yal, show decide (j + 1 = numB xs.length) = true from decide_eq_true hj.symm, ← h]
 unfold Yl6
 rw [List.take_of_length_le hl]
theorem Yjg (l ys : List UInt8) (last : Bool) : Ylp (Y00 true l ++ Y0f true ((if last then 1 else 0) + 2 * 0) 3) = Y00 true l ++ (Y0f true (if last then 1 else 0) 3 ++ zs 5) := by
 unfold Ylp
 rw [List.length_append, Y05, Y02, show 8 * ((8 * l.length + 3 + 7) / 8) - (8 * l.length + 3) = 5 from by omega, Nat.mul_zero, Nat.add_zero, List.append_assoc]
theorem Yjh (ys : List UInt8) (k : Nat) (h : k < ys.length) : Y00 true (ys.take (k + 1)) = Y00 true (ys.take k) ++ Y0f true ys[k].toNat 8 := by
 rw [List.take_succ_eq_append_getElem h, Y0j]
 congr 1
set_option maxHeartbeats 4000000 in
theorem Y55 (w : World) (E0 : Ke) (v : Value) (FT : Nat → Prop) (p : Option Addr) (n cap : Nat) (xs : List UInt8) (h : En w E0 v [])
  (hr : Foot FT (fun w' => Row w' p xs) w) (hf : Far E0 v FT) (hx : xs.length = n) (hn : n ≤ 190000) (hc : n ≤ cap) (hc2 : cap ≤ maxLen) :
  Calls Tryz.prog 44 #[.pointer (some ⟨E0.e, 0, none⟩), .slice p n cap] w fun e w' => e = .returned (.tuple #[]) ∧ EnT w E0 v (Y00 true (Y5d xs)) w' := by
 have HSP := Lib.hid (Ye3 w p n cap (fun hlt => by obtain ⟨b, off, e, _⟩ := hr.now (by omega); exact ⟨b, off, e⟩) (by omega) hc hc2)
 have H := Lib.hid h
 have HR := Lib.hid hr
 have HF := Lib.hid hf
 have HX := Lib.hid hx
 obtain ⟨K, hK⟩ : ∃ K, K = numB n := ⟨_, rfl⟩
 have hK1 : 1 ≤ K ∧ K ≤ 3 := by rw [hK]; unfold numB; omega
 have HK := Lib.hid hK
 clear h hr hf hx hK hc2
 go_enter Tryz.func44, Tryz.ntmps44
 go_wp2_with fail
 refine HSP.out.mono ?_
 rintro e w1 ⟨q, c, rfl, hb1, hq, hqn⟩
 rw [← HK.out] at hq ⊢
 have HB1 := Lib.hid hb1
 have HQ := Lib.hid hq
 have HU1 : Hid (Und w1 w1 E0 v v (Y00 true (Yal xs 0))) := Lib.hid (Und.start (H.out.below hb1))
 have HQF : Hid (Far E0 v (At q)) := Lib.hid (Yko H.out fun k ⟨a, e, hk⟩ => by rw [← hk]; exact hqn a e)
 have HR1 := Lib.hid (HR.out.below hb1)
 clear hb1 hq hqn HSP
 go_wp2_with fail
 go_loopw [13] (fun i wr => ∃ (j : Nat) (v' : Value), j ≤ K ∧ i = .int .i64 (j : Int) ∧ Hid (Und w1 wr E0 v v' (Y00 true (Yal xs j)))) (fun i _ => K - (intOf i).toNat)
 case atStart => exact ⟨0, v, by omega, rfl, HU1⟩
 case round =>
  obtain ⟨j, v', hjK, rfl, HU⟩ := hrel
  clear HU1
  by_cases hlt : j < K
  ·have ql : decide ((j : Int) < (K : Int)) = true := decide_eq_true (by omega)
   obtain ⟨KM, hKM⟩ : ∃ KM, KM + 1 = K := ⟨K - 1, by omega⟩
   obtain ⟨lb, hlb⟩ : ∃ lb : Bool, lb = decide (j + 1 = K) := ⟨_, rfl⟩
   have qe1 : ((j : Int) == (K : Int) - 1) = lb := by rw [hlb, Bool.eq_iff_iff]; simp; omega
   have qe2 : ((j : Int) == (KM : Int)) = lb := by rw [hlb, Bool.eq_iff_iff]; simp; omega
   have hw1 : wrap64 ((K : Int) - 1) = (KM : Int) := (Yaj _ (by omega) (by omega)).trans (by omega)
   obtain ⟨qb, qo, hqe, hqc⟩ := Ylj (HU.out.foot HQ.out HQF.out).now j (by simp; omega)
   have hqe2 := hqe
   subst hqe2
   clear hqe
   rw [List.getElem_map, List.getElem_range] at hqc
   unfold Ycb at hqc
   obtain ⟨A, hA⟩ : ∃ A, A = shA p (j * 65535) := ⟨_, rfl⟩
   obtain ⟨r, hr⟩ : ∃ r, r = min 65535 (n - j * 65535) := ⟨_, rfl⟩
   obtain ⟨cc, hcc⟩ : ∃ cc, cc = cap - j * 65535 := ⟨_, rfl⟩
   rw [← hA, ← hr, ← hcc] at hqc
   obtain ⟨ys, hys⟩ : ∃ ys, ys = Yl6 xs j := ⟨_, rfl⟩
   have hyl : ys.length = r := by rw [hys, Y3b, HX.out, hr]
   have hr65 : r ≤ 65535 := by omega
   have HRP : Hid (∀ W v2 l2, Und w1 W E0 v v2 l2 → Row W A ys) := Lib.hid fun W v2 l2 hu => by rw [hA, hys]; exact Yj9 (hu.foot HR1.out HF.out).now j
   have hsl := Y8o xs j
   have hbl : (Y00 true (Yal xs j)).length ≤ 8 * (2 * 65540) := by rw [Y02]; omega
   have HST : Hid (Yal xs (j + 1) = Yal xs j ++ Yeh lb ys) := Lib.hid (by rw [Yal, hys, hlb, HX.out, HK.out])
   have HYL := Lib.hid hyl
   have j0 : (0 : Int) ≤ (j : Int) := by omega
   have j1 : (j : Int) < (K : Int) := by omega
   obtain ⟨T, hT⟩ : ∃ T, T = Yal xs j := ⟨_, rfl⟩
   rw [← hT] at HU HST hbl
   have HBG := Lib.hid (Yeq wr E0 v' _ lb 0 HU.out.en (by omega) (by omega))
   have HJK := Lib.hid hlt
   clear hlb hA hr hcc hys hyl hsl hT hKM
   go_wp2_with fail
   refine HBG.out.mono ?_
   rintro e w2 ⟨rfl, ht⟩
   obtain ⟨v2, hU2⟩ := HU.out.more ht
   have HAL := Lib.hid (Yea w2 E0.gw v2 _ true hU2.en.ws (by rw [List.length_append, Y05]; omega))
   have e0 := hU2.en.c0
   have HU2 := Lib.hid hU2
   clear ht hU2 HBG HU hqc
   go_wp2_with fail
   refine HAL.out.mono ?_
   rintro e w3 ⟨rfl, ht⟩
   rw [Yjg T ys lb] at ht
   obtain ⟨v3, hU3⟩ := HU2.out.more (HU2.out.en.wst ht)
   have HN1 : Hid (Calls Tryz.prog 72 #[.pointer (some ⟨E0.e, 0, none⟩), .int .i64 (r : Int), .int .i64 16] w3 _) := Lib.hid (Y0t w3 E0 v3 _ r 16 hU3.en (by omega) (by omega) (by omega) (by simp only [List.length_append, Y05, Y07]; omega))
   have HU3 := Lib.hid hU3
   clear ht hU3 HAL HU2 e0
   go_wp2_with fail
   refine HN1.out.mono ?_
   rintro e w4 ⟨rfl, ht⟩
   obtain ⟨v4, hU4⟩ := HU3.out.more ht
   obtain ⟨rr, hrr⟩ : ∃ rr, rr = 65535 - r := ⟨_, rfl⟩
   have hw2 : wrap64 (65535 - (r : Int)) = (rr : Int) := (Yaj _ (by omega) (by omega)).trans (by omega)
   have hrr2 : 65535 - (r : Int) = (rr : Int) := by omega
   have HN2 : Hid (Calls Tryz.prog 72 #[.pointer (some ⟨E0.e, 0, none⟩), .int .i64 (65535 - (r : Int)), .int .i64 16] w4 _) := Lib.hid (by rw [hrr2]; exact Y0t w4 E0 v4 _ rr 16 hU4.en (by omega) (by omega) (by omega) (by simp only [List.length_append, Y05, Y07]; omega))
   have HRR := Lib.hid hrr
   have HU4 := Lib.hid hU4
   clear ht hU4 HN1 HU3 hw2 hrr hrr2
   go_wp2_with fail
   refine HN2.out.mono ?_
   rintro e w5 ⟨rfl, ht⟩
   obtain ⟨v5, hU5⟩ := HU4.out.more ht
   obtain ⟨l5, hl5⟩ : ∃ l5, l5 = Y00 true T ++ (Y0f true (if lb then 1 else 0) 3 ++ zs 5) ++ Y0f true r 16 ++ Y0f true rr 16 := ⟨_, rfl⟩
   rw [← hl5] at hU5
   have hl5l : l5.length ≤ 8 * (2 * 65540) + 40 := by rw [hl5]; simp only [List.length_append, Y05, Y07]; omega
   have HL5 := Lib.hid hl5
   have HU50 : Hid (Und w1 w5 E0 v v5 (l5 ++ Y00 true (ys.take 0))) := Lib.hid (by rw [List.take_zero, Yd2, List.append_nil]; exact hU5)
   clear ht hU5 HN2 HU4 hl5
   go_wp2_with fail
   obtain ⟨wA, hwA⟩ : ∃ wA, wA = wr := ⟨_, rfl⟩
   clear hwA
   go_loopw [41] (fun i wr => ∃ (k : Nat) (v' : Value), k ≤ r ∧ i = .int .i64 (k : Int) ∧ Hid (Und w1 wr E0 v v' (l5 ++ Y00 true (ys.take k)))) (fun i _ => r - (intOf i).toNat)
   case atStart => exact ⟨0, v5, by omega, rfl, HU50⟩
   case round =>
    obtain ⟨k, v6, hkr, rfl, HU6⟩ := hrel
    clear HU50
    by_cases hlt2 : k < r
    ·have ql2 : decide ((k : Int) < (r : Int)) = true := decide_eq_true (by omega)
     have hky : k < ys.length := by rw [HYL.out]; exact hlt2
     obtain ⟨b, off, hAe, _, hce⟩ := HRP.out _ _ _ HU6.out (by omega)
     subst hAe
     have hck := hce k hky
     have htk := Yjh ys k hky
     have hlen : (l5 ++ Y00 true (ys.take k)).length ≤ 2000000 := by rw [List.length_append, Y02, List.length_take]; omega
     generalize ys[k] = x at hck htk
     have hx8 : x.toNat < 256 := x.toNat_lt
     have HNK : Hid (∀ W v7, Und w1 W E0 v v7 (l5 ++ Y00 true (ys.take k)) → Calls Tryz.prog 72 #[.pointer (some ⟨E0.e, 0, none⟩), .int .i64 (x.toNat : Int), .int .i64 8] W (fun e w' => e = .returned (.tuple #[]) ∧ EnT W E0 v7 (l5 ++ Y00 true (ys.take k) ++ Y0f true x.toNat 8) w')) := Lib.hid fun W v7 hu => Y0t W E0 v7 _ x.toNat 8 hu.en (by omega) (by omega) (by omega) hlen
     have k0 : (0 : Int) ≤ (k : Int) := by omega
     have k1 : (k : Int) < (r : Int) := by omega
     have HTK := Lib.hid htk
     clear hce hky hlen htk
     go_wp2_with fail
     refine (HNK.out _ _ HU6.out).mono ?_
     rintro e w7 ⟨rfl, ht⟩
     obtain ⟨v7, hU7⟩ := HU6.out.more ht
     rw [List.append_assoc, ← HTK.out] at hU7
     have HU7 := Lib.hid hU7
     clear ht hU7 HNK HU6
     go_wp2_with fail
     go_roundw
     case rel => exact ⟨k + 1, v7, by omega, by first | rfl | (push_cast; rfl), HU7⟩
     case measure => simp [intOf]; omega
    ·have hkn : k = r := by omega
     have ql2 : decide ((k : Int) < (r : Int)) = false := decide_eq_false (by omega)
     have HU7 : Hid (Und w1 wr E0 v v6 (Y00 true (Yal xs (j + 1)))) := Lib.hid (by
      have h6 := HU6.out
      have e := HYL.out
      rw [hkn, List.take_of_length_le (by omega)] at h6
      rw [HST.out, Y0j, Y6q lb ys (by omega)]
      rw [HL5.out, HRR.out, ← e] at h6
      simp only [List.append_assoc] at h6 ⊢
      exact h6)
     clear hkn HU6
     go_wp2_with fail
     go_roundw
     case rel => exact ⟨j + 1, v6, by omega, by first | rfl | (push_cast; rfl), HU7⟩
     case measure => simp [intOf]; have := HJK.out; omega
  ·have hjn : j = K := by omega
   have ql : decide ((j : Int) < (K : Int)) = false := decide_eq_false (by omega)
   have h2 := HU.out
   rw [hjn, HK.out, ← HX.out, Ycj] at h2
   have HRES : Hid (EnT w E0 v (Y00 true (Y5d xs)) wr) := Lib.hid (EnT.more ((Only.of_below (S := fun _ => False) HB1.out).mono (fun _ _ e => False.elim e)) (fun _ e => .inl e) h2.ent)
   clear h2 hjn
   go_wp2_with fail
   go_end0
   exact ⟨rfl, HRES.out⟩
end Go.Proofs.YtkkfkmoikcmhoaaGreat.Df
namespace Go.Proofs.YtkkfkmoikcmhoaaGreat.Df
open Go.RowKit Oct Bit Hf Inf
set_option maxRecDepth 100000
def ResP (w : World) (l : List Bool) (e : Ending) (w' : World) : Prop :=
 Below w.heap.size w w' ∧ ∃ q cap, e = .returned (.tuple #[.slice q (Y0q true l).length cap, .int .i64 0]) ∧ Row w' q (Y0q true l) ∧ (Y0q true l).length ≤ cap ∧ cap ≤ maxLen ∧ (q = none → cap = 0) ∧ ∀ a, q = some a → w.heap.size ≤ a.block
theorem Ydz (w : World) (E0 : Ke) (v : Value) (l : List Bool) (h : En w E0 v l) (hl : l.length ≤ 2000000) : Calls Tryz.prog 48 #[.pointer (some ⟨E0.e, 0, none⟩)] w (ResP w l) := by
 have c3 := h.c3
 have c0 := h.c0
 have HBY := Lib.hid (Yew w E0.gw v l true h.ws hl)
 clear h
 go_enter Tryz.func48, Tryz.ntmps48
 go_wp2_with fail
 refine HBY.out.mono ?_
 rintro e w1 ⟨hb, q, cap, rfl, hr, h1, h2, h3, h4⟩
 go_wp2_with fail
 go_ret2
 exact ⟨hb, q, cap, rfl, hr, h1, h2, h3, h4⟩
end Go.Proofs.YtkkfkmoikcmhoaaGreat.Df
namespace Go.Proofs.YtkkfkmoikcmhoaaGreat.Df
open Go.RowKit Oct Bit Hf Inf
set_option maxRecDepth 100000
theorem Ygw {w : World} {base : Nat} {far : Bool} {v : Value} (h : w.ownsRow base 102 2 v (froms far).length (bcells (Y7k far))) :
  ∃ b c, v = .slice (some ⟨b, 0, none⟩) (froms far).length c ∧ base ≤ b ∧ b < w.heap.size ∧ (froms far).length ≤ c ∧ ∀ w' : World, w'.heap[b]? = w.heap[b]? → Yhl w' b far := by
 have hl := fun k hk => h.lt k hk
 have hc := fun g hg => h.cells (g := g) hg
 have hpos : 0 < (froms far).length := by cases far <;> decide
 rcases h.2 with ⟨_, h0⟩ | ⟨g, cap, cur, rfl, hb, hh, h1, _⟩
 ·omega
 ·refine ⟨g, cap, rfl, hb, (hl g rfl).2, h1, fun w' hw i hi => ?_⟩
  obtain ⟨k1, k2⟩ := Y4w _ _ _ (Y9o far i hi)
  have e1 := hc g rfl _ _ k1
  have e2 := hc g rfl _ _ k2
  rw [Y0i, Nat.zero_add] at e1 e2
  exact ⟨(World.cell?_of_block hw).trans e1, (World.cell?_of_block hw).trans e2⟩
theorem Ybs : ∀ xs ys : List UInt8, Y00 true xs = Y00 true ys → xs = ys
 | [], [], _ => rfl
 | [], y :: ys, h => by
  have := congrArg List.length h
  rw [Y02, Y02, List.length_nil, List.length_cons] at this
  omega
 | x :: xs, [], h => by
  have := congrArg List.length h
  rw [Y02, Y02, List.length_nil, List.length_cons] at this
  omega
 | x :: xs, y :: ys, h => by
  rw [Y11, Y11] at h
  obtain ⟨h1, h2⟩ := List.append_inj h (by rw [Y1j, Y1j])
  have hx := x.toNat_lt
  have hy := y.toNat_lt
  have e := congrArg (Y1r true) h1
  unfold Y4k at e
  rw [Y21 true _ 8 (by omega), Y21 true _ 8 (by omega)] at e
  rw [Ybs xs ys h2, UInt8.toNat_inj.1 e]
theorem Y9n (xs : List UInt8) : Y0q true (Y00 true xs) = xs := by
 apply Ybs
 rw [Y8u, Y02, show 8 * ((8 * xs.length + 7) / 8) - 8 * xs.length = 0 from by omega]
 exact List.append_nil _
theorem Ym2 {w w1 w2 w3 w4 : World} {bl cl bd cd : Nat} (hb1 : Below w.heap.size w w1) (hw : Ws w1 w.heap.size (.slice none 0 0) [] true) (hb2 : Below w1.heap.size w1 w2) (hb3 : Below w2.heap.size w2 w3)
  (hl1 : w1.heap.size ≤ bl) (hl2 : bl < w2.heap.size) (hl3 : 29 ≤ cl) (hlt : ∀ w' : World, w'.heap[bl]? = w2.heap[bl]? → Yhl w' bl false)
  (hd1 : w2.heap.size ≤ bd) (hd2 : bd < w3.heap.size) (hd3 : 30 ≤ cd) (hdt : ∀ w' : World, w'.heap[bd]? = w3.heap[bd]? → Yhl w' bd true)
  (hw4 : w4 = w3.alloc (.cells #[.pointer (some ⟨w.heap.size, 0, none⟩), .slice (some ⟨bl, 0, none⟩) 29 cl, .slice (some ⟨bd, 0, none⟩) 30 cd, .int .i64 0] 86)) :
  En w4 ⟨w3.heap.size, w.heap.size, bl, cl, bd, cd⟩ (.slice none 0 0) [] ∧ Below w.heap.size w w4 := by
 have z1 : w.heap.size < w1.heap.size := Wr.lt hw
 have z2 := hb2.size
 have z3 := hb3.size
 have hb34 : Below w3.heap.size w3 w4 := by rw [hw4]; exact (Below.refl _ w3).alloc (Nat.le_refl _) _
 have hb24 : Below w2.heap.size w2 w4 := hb3.trans (hb34.mono z3)
 have hb14 : Below w1.heap.size w1 w4 := hb2.trans (hb24.mono z2)
 refine ⟨⟨?_, Wr.only hw (Only.of_below (S := fun _ => False) hb14) (fun e => e) (fun k hk => by cases hk), hlt _ (hb24.block _ hl2), hdt _ (hb34.block _ hd2), ?_, ⟨?_, ?_⟩, ⟨?_, ?_⟩, (fun k hk => by cases hk), ⟨hl3, hd3⟩⟩, hb1.trans (hb14.mono hb1.size)⟩
 ·rw [hw4]
  exact Array.getElem?_push_size
 ·show w.heap.size < w3.heap.size; omega
 ·show w.heap.size < bl; omega
 ·show w.heap.size < bd; omega
 ·show bl < w3.heap.size; omega
 ·show bd < w3.heap.size; omega
theorem Yfb {w : World} {p : Option Addr} {xs : List UInt8} (h : Row w p xs) : ∃ F, Foot F (fun w' => Row w' p xs) w := by
 by_cases h0 : 0 < xs.length
 ·exact ⟨_, Yi7 h h0⟩
 ·exact ⟨fun _ => False, fun k hk => hk.elim, fun w' _ _ hp => absurd hp h0⟩
theorem Yck : ∀ (k : Nat) (xs : List UInt8), xs.length ≤ k → (Y5d xs).length ≤ 2 * xs.length + 5
 | 0, xs, h => by rw [Y23 xs (by omega), Y18]; omega
 | k + 1, xs, h => by
  by_cases hs : xs.length ≤ 65535
  ·rw [Y23 xs hs, Y18]; omega
  ·have ih := Yck k (xs.drop 65535) (by rw [List.length_drop]; omega)
   rw [Ya4 xs 65535 rfl hs, List.length_append, Y18, List.length_take]
   rw [List.length_drop] at ih
   omega
structure DefX (xs : List UInt8) (k : Nat) (ys : List UInt8) : Prop where
 inf : ∀ most, xs.length ≤ most → inflate ys most = .ok (xs, ys.length)
 head : xs.length ≤ 16384 → ∃ h r, h < 8 ∧ h / 2 = k ∧ Y00 true ys = Y0f true h 3 ++ r
 len : ys.length ≤ 2 * xs.length + 1300
 sto : k = 0 → ys = Y5d xs
 few : ∀ c, xs = List.replicate xs.length c → 1 ≤ xs.length → xs.length ≤ 100000 → (k = 1 → ys.length ≤ 40 + xs.length / 32) ∧ (k = 2 → ys.length ≤ 100 + xs.length / 32)
theorem Yhy (xs : List UInt8) : DefX xs 0 (Y5d xs) := by
 refine ⟨fun most hm => Ya5 xs most hm, fun hs => ?_, by have := Yck _ xs (Nat.le_refl _); omega, fun _ => rfl, fun c _ _ _ => ⟨fun e => by omega, fun e => by omega⟩⟩
 rw [Y23 xs (by omega), Y6q true xs (by omega)]
 exact ⟨1, _, by decide, by decide, rfl⟩
def DefP (w : World) (xs : List UInt8) (how : Int) (e : Ending) (w' : World) : Prop :=
 Below w.heap.size w w' ∧ (((how < 0 ∨ 2 < how) ∧ e = .returned (.tuple #[.slice none 0 0, .int .i64 1])) ∨
  ∃ k ys q c, how = ((k : Nat) : Int) ∧ k ≤ 2 ∧ DefX xs k ys ∧ e = .returned (.tuple #[.slice q ys.length c, .int .i64 0]) ∧ Row w' q ys ∧ ys.length ≤ c ∧ c ≤ maxLen ∧ (q = none → c = 0) ∧ ∀ a, q = some a → w.heap.size ≤ a.block)
theorem Yhz {w w4 w5 w6 : World} {K : Ke} {B : List Bool} {xs : List UInt8} {k : Nat} {e : Ending} {v6 : Value} (hb : Below w.heap.size w w4) (h56 : Below w.heap.size w4 w5) (hK : K.gw = w.heap.size) (hu : Und w5 w6 K (.slice none 0 0) v6 B) (hX : DefX xs k (Y0q true B)) (hk : k ≤ 2)
  {w7 : World} (hr : ResP w6 B e w7) : DefP w xs (k : Int) e w7 := by
 obtain ⟨hb7, q, c, rfl, h1, h2, h3, h4, h5⟩ := hr
 have hb6 : Below w.heap.size w5 w6 := hu.only.below (Nat.le_trans hb.size h56.size) fun j hj e => by
  rcases e with e | e
  ·rw [hK] at e; omega
  ·cases e
 have hall := (hb.trans h56).trans hb6
 exact ⟨hall.trans (hb7.mono hall.size), .inr ⟨k, _, q, c, rfl, hk, hX, rfl, h1, h2, h3, h4, fun a ha => Nat.le_trans hall.size (h5 a ha)⟩⟩
end Go.Proofs.YtkkfkmoikcmhoaaGreat.Df
namespace Go.Proofs.YtkkfkmoikcmhoaaGreat.Df
open Go.RowKit Oct Bit Hf Inf
set_option maxRecDepth 100000
set_option maxHeartbeats 4000000 in
theorem Yat (w : World) (p : Option Addr) (n cap : Nat) (xs : List UInt8) (hr : Row w p xs) (hx : xs.length = n) (hc : n ≤ cap) (hc2 : cap ≤ maxLen) (hf : xs.length ≤ 190000) :
  Calls Tryz.prog 20 #[.slice p n cap, .int .i64 0] w (DefP w xs 0) := by
 have HR := Lib.hid hr
 have HX := Lib.hid hx
 have HC := Lib.hid (And.intro hc hc2)
 have HF := Lib.hid hf
 clear hr hx hc hc2 hf
 go_enter Tryz.func20, Tryz.ntmps20
 go_wp2_with fail
 refine (Y86 true w).mono ?_
 rintro e w1 ⟨hb1, rfl, hws⟩
 obtain ⟨gw, hgw⟩ : ∃ gw, gw = w.heap.size := ⟨_, rfl⟩
 rw [← hgw]
 have HGW := Lib.hid hgw
 have HB1 := Lib.hid hb1
 have HWS := Lib.hid hws
 clear hb1 hws hgw
 go_wp2_with fail
 refine (Inf.Yby w1).mono ?_
 rintro e w2 ⟨v2, rfl, hb2, ho2⟩
 obtain ⟨bl, cl, hv2, hl1, hl2, hl3, hlt⟩ := Ygw ho2
 have hv2' : v2 = .slice (some ⟨bl, 0, none⟩) 29 cl := hv2
 subst hv2'
 have HB2 := Lib.hid hb2
 have HTL := Lib.hid hlt
 have HL := Lib.hid (And.intro hl1 (And.intro hl2 (show 29 ≤ cl from hl3)))
 clear hb2 ho2 hlt hl1 hl2 hl3 hv2
 go_wp2_with fail
 refine (Inf.Y92 w2).mono ?_
 rintro e w3 ⟨v3, rfl, hb3, ho3⟩
 obtain ⟨bd, cd, hv3, hd1, hd2, hd3, hdt⟩ := Ygw ho3
 have hv3' : v3 = .slice (some ⟨bd, 0, none⟩) 30 cd := hv3
 subst hv3'
 obtain ⟨w4, hw4⟩ : ∃ w4, w4 = w3.alloc (.cells #[.pointer (some ⟨w.heap.size, 0, none⟩), .slice (some ⟨bl, 0, none⟩) 29 cl, .slice (some ⟨bd, 0, none⟩) 30 cd, .int .i64 0] 86) := ⟨_, rfl⟩
 obtain ⟨hE, hB4⟩ := Ym2 HB1.out HWS.out HB2.out hb3 HL.out.1 HL.out.2.1 HL.out.2.2 HTL.out hd1 hd2 hd3 hdt hw4
 obtain ⟨K, hK⟩ : ∃ K : Ke, K = ⟨w3.heap.size, w.heap.size, bl, cl, bd, cd⟩ := ⟨_, rfl⟩
 have hKe : w3.heap.size = K.e := by rw [hK]
 have hKg : K.gw = w.heap.size := by rw [hK]
 rw [← hK] at hE
 rw [← HGW.out] at hw4
 have HE := Lib.hid hE
 have HB4 := Lib.hid hB4
 have HW4 := Lib.hid hw4
 have HKE := Lib.hid hKe
 have HKG := Lib.hid hKg
 clear hb3 ho3 hdt hd1 hd2 hd3 hv3 hE hB4 hw4 hKe hKg hK
 obtain ⟨F, hFr⟩ := Yfb HR.out
 have hFr4 := hFr.below HB4.out
 have hfar : Far K (.slice none 0 0) F := fun k hk => ⟨by rw [HKG.out]; have := hFr.1 k hk; omega, fun e => by cases e⟩
 have HST := Lib.hid (Y55 w4 K (.slice none 0 0) F p n cap xs HE.out hFr4 hfar HX.out (by have := HF.out; rw [HX.out] at this; exact this) HC.out.1 HC.out.2)
 clear hFr hFr4 hfar
 go_wp2_with fail
 rw [HKE.out, ← HW4.out]
 refine HST.out.mono ?_
 rintro e w5 ⟨rfl, ht⟩
 obtain ⟨v5, hU⟩ := (Und.start HE.out).more ht
 have hl : (Y00 true (Y5d xs)).length ≤ 2000000 := by
  have h1 := Y8o xs (numB xs.length)
  rw [Ycj] at h1
  have h2 := HF.out
  have h3 : numB xs.length ≤ 3 := by unfold numB; omega
  rw [Y02]
  omega
 have HRS := Lib.hid (Ydz w5 K v5 _ hU.en hl)
 have HU := Lib.hid hU
 clear ht hU hl HST
 go_wp2_with fail
 refine HRS.out.mono ?_
 rintro e w6 hres
 have hX := Yhy xs
 have hpk : Y0q true (Y00 true (Y5d xs)) = Y5d xs := Y9n _
 have HD := Lib.hid (Yhz (k := 0) HB4.out (Below.refl _ _) HKG.out HU.out (by rw [hpk]; exact hX) (by omega) hres)
 obtain ⟨_, q, c, rfl, _⟩ := hres
 clear hX hpk HRS HU
 go_wp2_with fail
 go_ret2
 exact HD.out
end Go.Proofs.YtkkfkmoikcmhoaaGreat.Df
