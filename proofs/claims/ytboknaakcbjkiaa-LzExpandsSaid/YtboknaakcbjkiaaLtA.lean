
/- But for some blocks nothing has turned; one byte behind an own row. -/
import Derived.Test.YtboknaakcbjkiaaLtT
import Derived.Test.YtboknaakcbjkiaaTail
import Derived.Deep.AppendLies
import Derived.Deep.RegionLaw
namespace Go.Proofs.Ytboknaakcbjkiaa.Lzt
open Go.RowKit Go.Proofs.Ytboknaakcbjkiaa.Oct
set_option linter.unusedVariables false
set_option maxRecDepth 20000

/-- but for the blocks S nothing that was there has turned -/
def Only (S : Nat → Prop) (w w' : World) : Prop :=
  w'.os = w.os ∧ w'.tape = w.tape ∧ w'.output = w.output ∧ w.heap.size ≤ w'.heap.size ∧ ∀ k, k < w.heap.size → ¬ S k → w'.heap[k]? = w.heap[k]?
theorem Only.refl (S : Nat → Prop) (w : World) : Only S w w := ⟨rfl, rfl, rfl, Nat.le_refl _, fun _ _ _ => rfl⟩
theorem Only.trans {S : Nat → Prop} {a b c : World} (h : Only S a b) (k : Only S b c) : Only S a c :=
  ⟨k.1.trans h.1, k.2.1.trans h.2.1, k.2.2.1.trans h.2.2.1, Nat.le_trans h.2.2.2.1 k.2.2.2.1, fun i hi hs => (k.2.2.2.2 i (by have := h.2.2.2.1; omega) hs).trans (h.2.2.2.2 i hi hs)⟩
theorem Only.below {S : Nat → Prop} {B : Nat} {w w' : World} (h : Only S w w') (hB : B ≤ w.heap.size) (hS : ∀ k, k < B → ¬ S k) : Below B w w' :=
  ⟨h.1, h.2.1, h.2.2.1, h.2.2.2.1, fun k hk => h.2.2.2.2 k (by omega) (hS k hk)⟩
theorem Only.of_below {S : Nat → Prop} {w w' : World} (h : Below w.heap.size w w') : Only S w w' := ⟨h.os, h.tape, h.output, h.size, fun k hk _ => h.block k hk⟩
theorem Only.drawn (S : Nat → Prop) {w w' : World} (h : Drawn w w') : Only S w w' := by
  obtain ⟨n, rfl⟩ := h
  exact ⟨rfl, rfl, rfl, Nat.le_refl _, fun _ _ _ => rfl⟩
theorem Only.setCell {S : Nat → Prop} {w : World} {p : Addr} (hp : S p.block) (u : Value) : Only S w (w.setCell p u) :=
  ⟨rfl, rfl, rfl, by simp [World.setCell], fun k hk hs => Below.heap_setCell _ _ _ _ (fun e => hs (e ▸ hp))⟩
theorem Only.mono {S S' : Nat → Prop} {w w' : World} (h : Only S w w') (hs : ∀ k, k < w.heap.size → S k → S' k) : Only S' w w' :=
  ⟨h.1, h.2.1, h.2.2.1, h.2.2.2.1, fun k hk hn => h.2.2.2.2 k hk (fun e => hn (hs k hk e))⟩
theorem row_one (w : World) (x : UInt8) (T : Nat) : Row (w.alloc (.cells #[.int .u8 (x.toNat : Int)] T)) (some ⟨w.heap.size, 0, none⟩) [x] := by
  intro _
  refine ⟨w.heap.size, 0, rfl, by simp, fun i h => ?_⟩
  match i, h with
  | 0, _ => simp
theorem row_val (w : World) (z : Int) (x : UInt8) (h : z = (x.toNat : Int)) : Row (w.alloc (.cells #[.int .u8 z] 5)) (some ⟨w.heap.size, 0, none⟩) [x] := by
  subst h
  exact row_one w x _
theorem only_grown {w w' : World} {row : Option Nat} (hg : w.grownBy w' row) : Only (fun k => row = some k) w w' :=
  ⟨hg.os, hg.tape, hg.output, hg.size, fun k hk hs => hg.block k hk (fun e => hs e.symm)⟩
theorem news8 (w : World) (x : UInt8) : ∀ j u, (cellsOf [x])[j]? = some u → (w.alloc (.cells #[.int .u8 (x.toNat : Int)] 5)).cell? ((⟨w.heap.size, 0, none⟩ : Addr).add j) = some u := by
  intro j u hj
  obtain ⟨hj', rfl⟩ := cellsOf_get hj
  have : j = 0 := by simpa using hj'
  subst this
  rw [add_plain]
  simp
/-- one byte behind an own row -/
theorem app_one {W : World} {ops : Array Oper} {rest : List Oper} {o : Oper} {a : Act} {Q : Exit → Act → World → Prop} (hgd : o.guard = none) (s x : Operand)
    (ho : o.op = .call { callee := .builtin .append, args := #[s, x], argTypes := #[24, 24] }) (v : Value) (out : List UInt8) (y : UInt8) (z : Int) (hz : (y.toNat : Int) = z) (hs : a.eval s = v)
    (hown : W.ownsRow 0 5 1 v out.length (cellsOf out)) (H : Nat) (hH : W.heap.size = H) (hx : a.eval x = .slice (some ⟨H, 0, none⟩) 1 1) (n : Nat) (hn : out.length = n) (hl : n ≤ 200000)
    (h : ∀ g cap w', n + 1 ≤ cap → cap ≤ 2 ^ 63 - 1 → w'.ownsRow 0 5 1 (.slice (some ⟨g, 0, none⟩) (out.length + 1) cap) (out ++ [y]).length (cellsOf (out ++ [y])) → Only (fun k => v.ownBlock = some k) (W.alloc (.cells #[.int .u8 z] 5)) w' → (v.ownBlock = some g ∨ g = H + 1) →
      wpList Try.prog ops Q rest (a.put o.dst (.slice (some ⟨g, 0, none⟩) (n + 1) cap)) w') : wpList Try.prog ops Q (o :: rest) a (W.alloc (.cells #[.int .u8 z] 5)) := by
  subst hz hH hn
  obtain ⟨i0, hi, hz0, hz1, hz2⟩ := info_parts Try.infoByte
  refine wpList_append_lies _ hgd s x 24 ho 0 5 i0 (.int .u8 0) 1 1 Try.underlying24 hi hz0 hz1 hz2 rfl (by decide) v out.length (cellsOf out) hs (own_below hown ((Below.refl _ W).alloc (Nat.le_refl _) _)) ⟨W.heap.size, 0, none⟩ 1 1 (cellsOf [y]) hx rfl (news8 W y) cellsOf_one (by decide) (by unfold maxLen; omega) (by omega) (Nat.zero_le _) _ rfl ?_
  intro g cap w' h1 h2 h3 _
  rw [← cellsOf_append] at h1
  have h4 : w'.ownsRow 0 5 1 (.slice (some ⟨g, 0, none⟩) (out.length + 1) cap) (out ++ [y]).length (cellsOf (out ++ [y])) := by rw [List.length_append]; exact h1
  obtain ⟨g', cap', e, q1, q2, _⟩ := own_form h1 (fun h => by cases h)
  cases e
  exact h g cap w' q1 (by unfold maxLen at q2; exact q2) h4 (only_grown h2) (h3.imp id (fun e => by rw [e]; simp))
end Go.Proofs.Ytboknaakcbjkiaa.Lzt
