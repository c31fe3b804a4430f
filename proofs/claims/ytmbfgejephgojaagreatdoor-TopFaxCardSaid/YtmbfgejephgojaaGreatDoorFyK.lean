
/- A writer beside the books of all words; the chapter's examples hold. -/
import Derived.Test.YtmbfgejephgojaaGreatDoorFyI
import Derived.Deep.Slices
namespace Go.Proofs.YtmbfgejephgojaaGreatDoor.Fx
open Go.RowKit Go.Proofs.YtmbfgejephgojaaGreatDoor.Oct Go.Proofs.YtmbfgejephgojaaGreatDoor.Bit Go.Proofs.YtmbfgejephgojaaGreatDoor.Hf Go.Proofs.YtmbfgejephgojaaGreatDoor.Inf
set_option linter.unusedVariables false
set_option linter.unusedSimpArgs false
set_option maxRecDepth 100000

/-- books in the blocks from B up to C, a writer outside of them; all that lies below D is as it was in W0 -/
structure CW (D : Nat) (W0 : World) (B C c gw : Nat) (v : Value) (l : List Bool) (low : Bool) (w : World) : Prop where
  cd : Cd w B C c
  ws : Ws w gw v l low
  out : OutW B C gw v
  mine : ∀ k, Mine gw v k → D ≤ k
  bel : Below D W0 w
  dz : D ≤ w.heap.size
section
variable {D : Nat} {W0 w w' : World} {B C c gw : Nat} {v : Value} {l m : List Bool} {low : Bool}
theorem CW.wrote (h : CW D W0 B C c gw v l low w) (hT : WsT w gw v (l ++ m) low w') : ∃ v', CW D W0 B C c gw v' (l ++ m) low w' := by
  obtain ⟨v', hW, ho, hv⟩ := hT
  have hz := ho.2.2.2.1
  refine ⟨v', h.cd.only ho h.out, hW, fun k hk => ?_, fun k hk => ?_, h.bel.trans (ho.below h.dz fun k hk hm => by have := h.mine k hm; omega), Nat.le_trans h.dz hz⟩
  · rcases hk with e | e
    · exact h.out k (.inl e)
    · rcases hv k e with e2 | e2
      · exact h.out k (.inr e2)
      · exact .inr (by have := h.cd.1; omega)
  · rcases hk with e | e
    · exact h.mine k (.inl e)
    · rcases hv k e with e2 | e2
      · exact h.mine k (.inr e2)
      · have := h.dz; omega
theorem CW.more (h : CW D W0 B C c gw v l low w) (hb : Below w.heap.size w w') : CW D W0 B C c gw v l low w' := by
  have ho : Only (fun _ => False) w w' := Only.of_below hb
  exact ⟨h.cd.below hb h.cd.1, h.ws.only ho (fun e => e) (fun _ _ e => e), h.out, h.mine, h.bel.trans (hb.mono h.dz), Nat.le_trans h.dz hb.size⟩
/-- the writer made first -/
theorem CW.first {w0 : World} (hw : Ws w gw (.slice none 0 0) [] low) (hg : gw = w0.heap.size) (hb : Below w0.heap.size w0 w) (hb2 : Below w.heap.size w w') (hc : Cd w' w.heap.size w'.heap.size c) : CW w0.heap.size w0 w.heap.size w'.heap.size c gw (.slice none 0 0) [] low w' := by
  have hlt := Wr.lt hw
  have key : ∀ k, Mine gw (.slice none 0 0) k → k = gw := fun k hk => by
    rcases hk with e | e
    · exact e
    · cases e
  have ho : Only (fun _ => False) w w' := Only.of_below hb2
  exact ⟨hc, hw.only ho (fun e => e) (fun _ _ e => e), fun k hk => by rw [key k hk]; exact .inl hlt, fun k hk => by rw [key k hk, hg]; exact Nat.le_refl _, hb.trans (hb2.mono hb.size), Nat.le_trans hb.size hb2.size⟩
/-- the books made first -/
theorem CW.second {w0 : World} (hc : Cd w w0.heap.size w.heap.size c) (hb : Below w0.heap.size w0 w) (hw : Ws w' w.heap.size (.slice none 0 0) [] low) (hb2 : Below w.heap.size w w') : CW w0.heap.size w0 w0.heap.size w.heap.size c w.heap.size (.slice none 0 0) [] low w' := by
  have key : ∀ k, Mine w.heap.size (.slice none 0 0) k → k = w.heap.size := fun k hk => by
    rcases hk with e | e
    · exact e
    · cases e
  exact ⟨hc.below hb2 (Nat.le_refl _), hw, fun k hk => by rw [key k hk]; exact .inr (Nat.le_refl _), fun k hk => by rw [key k hk]; exact hb.size, hb.trans (hb2.mono hb.size), Nat.le_trans hb.size hb2.size⟩
end
def TrueT (w : World) (e : Ending) (w' : World) : Prop := e = .returned (.bool true) ∧ Below w.heap.size w w'
theorem ex_read : lenZ false (bitsOf false (packB false (tellF false 64 ++ tellF true 0))) 100 0 0 = (13, .ok 64) := by kernel_rfl
theorem ex_len : (tellF false 64 ++ tellF true 0).length = 23 := by kernel_rfl
end Go.Proofs.YtmbfgejephgojaaGreatDoor.Fx
/- The walk of FaxcodeReads. -/
namespace Go.Proofs.YtmbfgejephgojaaGreatDoor.Fx
open Go.RowKit Go.Proofs.YtmbfgejephgojaaGreatDoor.Oct Go.Proofs.YtmbfgejephgojaaGreatDoor.Bit Go.Proofs.YtmbfgejephgojaaGreatDoor.Hf Go.Proofs.YtmbfgejephgojaaGreatDoor.Inf Go.ChangeShapes Go.WideShapes Go.Deep
set_option linter.unusedVariables false
set_option linter.unusedSimpArgs false
set_option maxRecDepth 100000

/-- a slice of bools that came in -/
def IsBoo (w : World) (a : Option Addr) (len cap : Nat) : Prop :=
  len ≤ cap ∧ cap ≤ maxLen ∧ (0 < len → ∃ b off, a = some ⟨b, off, none⟩ ∧ b < w.heap.size ∧ ∀ i, i < len → ∃ x : Bool, w.cell? ⟨b, off + i, none⟩ = some (.bool x))
theorem rd_only {S : Nat → Prop} {w w' : World} {g : Nat} {p : Option Addr} {cap : Nat} {xs : List UInt8} {at_ : Nat} {low : Bool} (h : Rd w g p cap xs at_ low) (ho : Only S w w') (hg : ¬ S g) (hp : ∀ a, p = some a → a.block < g → ¬ S a.block) : Rd w' g p cap xs at_ low := by
  have hlt := h.lt
  refine ⟨(ho.2.2.2.2 g hlt hg).trans h.1, fun h0 => ?_, h.2.2⟩
  obtain ⟨b, off, e, hb, hc⟩ := h.2.1 h0
  refine ⟨b, off, e, hb, fun i hi => ?_⟩
  rw [← hc i hi]
  exact World.cell?_of_block (w := w) (ho.2.2.2.2 b (by omega) (hp _ e hb))
/-- the books and two readers of the same bytes -/
structure RS (D : Nat) (W0 : World) (B C c g1 g2 : Nat) (q1 : Option Addr) (c1 : Nat) (q2 : Option Addr) (c2 : Nat) (xs : List UInt8) (a1 a2 : Nat) (w : World) : Prop where
  bel : Below D W0 w
  cd : Cd w B C c
  r1 : Rd w g1 q1 c1 xs a1 false
  r2 : Rd w g2 q2 c2 xs a2 false
  o1 : C ≤ g1
  o2 : g1 < g2
  o3 : ∀ a, q2 = some a → g1 < a.block
  o4 : D ≤ g1
  o5 : D ≤ w.heap.size
section
variable {D : Nat} {W0 w w' : World} {B C c g1 g2 : Nat} {q1 : Option Addr} {c1 : Nat} {q2 : Option Addr} {c2 : Nat} {xs : List UInt8} {a1 a2 a : Nat}
theorem RS.more (h : RS D W0 B C c g1 g2 q1 c1 q2 c2 xs a1 a2 w) (hb : Below w.heap.size w w') : RS D W0 B C c g1 g2 q1 c1 q2 c2 xs a1 a2 w' :=
  ⟨h.bel.trans (hb.mono h.o5), h.cd.below hb h.cd.1, h.r1.below hb h.r1.lt, h.r2.below hb h.r2.lt, h.o1, h.o2, h.o3, h.o4, Nat.le_trans h.o5 hb.size⟩
theorem RS.first (h : RS D W0 B C c g1 g2 q1 c1 q2 c2 xs a1 a2 w) (ho : Only (· = g1) w w') (hr : Rd w' g1 q1 c1 xs a false) : RS D W0 B C c g1 g2 q1 c1 q2 c2 xs a a2 w' :=
  ⟨h.bel.trans (ho.below h.o5 fun k hk e => by have := h.o4; omega), h.cd.only ho fun k e => .inr (by have := h.o1; omega), hr, rd_only h.r2 ho (fun e => by have := h.o2; omega) (fun a ha _ e => by have := h.o3 a ha; omega), h.o1, h.o2, h.o3, h.o4, Nat.le_trans h.o5 ho.2.2.2.1⟩
theorem RS.second (h : RS D W0 B C c g1 g2 q1 c1 q2 c2 xs a1 a2 w) (ho : Only (· = g2) w w') (hr : Rd w' g2 q2 c2 xs a false) : RS D W0 B C c g1 g2 q1 c1 q2 c2 xs a1 a w' :=
  ⟨h.bel.trans (ho.below h.o5 fun k hk e => by have := h.o4; have := h.o2; omega), h.cd.only ho fun k e => .inr (by have := h.o1; have := h.o2; omega), rd_only h.r1 ho (fun e => by have := h.o2; omega) (fun a ha hlt e => by have := h.o2; omega), hr, h.o1, h.o2, h.o3, h.o4, Nat.le_trans h.o5 ho.2.2.2.1⟩
end
end Go.Proofs.YtmbfgejephgojaaGreatDoor.Fx
