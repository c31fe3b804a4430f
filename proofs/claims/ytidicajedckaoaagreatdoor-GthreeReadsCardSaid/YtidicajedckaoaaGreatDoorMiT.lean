
/- The walk of MhAgain. -/
import Derived.Test.YtidicajedckaoaaGreatDoorMiS
namespace Go.Proofs.YtidicajedckaoaaGreatDoor.Mh
open Go.RowKit Go.Proofs.YtidicajedckaoaaGreatDoor.Oct Go.Proofs.YtidicajedckaoaaGreatDoor.Bit
open Go.Proofs.YtidicajedckaoaaGreatDoor.Fx (Tab Cd Out OutW WrP CW codes_any TrueT rd_only)
open Go.Proofs.YtidicajedckaoaaGreatDoor.Rn (changes zl zl_length Valid rchanges_new)
open Go.Proofs.YtidicajedckaoaaGreatDoor.Lp (VRow ints ints_length)
set_option linter.unusedVariables false
set_option linter.unusedSimpArgs false
set_option maxRecDepth 100000

/-- a row of places that stands apart from the writer's own blocks -/
def Apt (w : World) (gw : Nat) (v : Value) (q : Option Addr) (m c : Nat) (d : List Nat) : Prop := VRow w w.heap.size q (ints (zl d)) ∧ d.length = m ∧ m ≤ c ∧ ∀ a, q = some a → 0 < d.length → ¬ Mine gw v a.block
theorem Apt.wrote {w w' : World} {gw : Nat} {v v' : Value} {q : Option Addr} {m c : Nat} {d : List Nat} (h : Apt w gw v q m c d) (ho : Only (Mine gw v) w w') (hv : ∀ k, v'.ownBlock = some k → v.ownBlock = some k ∨ w.heap.size ≤ k) : Apt w' gw v' q m c d := by
  obtain ⟨h1, h2, h3, h4⟩ := h
  refine ⟨(vrow_far h1 ho (Nat.le_refl _) (fun a ha h0 => h4 a ha (by rwa [ints_length, zl_length] at h0))).mono ho.2.2.2.1, h2, h3, fun a ha h0 hm => ?_⟩
  rcases hm with e | e
  · exact h4 a ha h0 (.inl e)
  · rcases hv _ e with e2 | e2
    · exact h4 a ha h0 (.inr e2)
    · obtain ⟨b, off, e3, hb, _⟩ := h1 (by rw [ints_length, zl_length]; exact h0)
      rw [ha] at e3
      injection e3 with e3
      rw [e3] at e2
      simp only at e2
      omega
theorem Apt.more {w w' : World} {gw : Nat} {v : Value} {q : Option Addr} {m c : Nat} {d : List Nat} (h : Apt w gw v q m c d) (hb : Below w.heap.size w w') : Apt w' gw v q m c d :=
  ⟨(h.1.below hb (Nat.le_refl _)).mono hb.size, h.2⟩
theorem CW.wrote2 {D : Nat} {W0 w w' : World} {B C c gw : Nat} {v v' : Value} {l m : List Bool} (h : CW D W0 B C c gw v l false w) (hW : Ws w' gw v' (l ++ m) false) (ho : Only (Mine gw v) w w') (hv : ∀ k, v'.ownBlock = some k → v.ownBlock = some k ∨ w.heap.size ≤ k) : CW D W0 B C c gw v' (l ++ m) false w' := by
  have hz := ho.2.2.2.1
  refine ⟨h.cd.only ho h.out, hW, fun k hk => ?_, fun k hk => ?_, h.bel.trans (ho.below h.dz fun k hk hm => by have := h.mine k hm; omega), Nat.le_trans h.dz hz⟩
  · rcases hk with e | e
    · exact h.out k (.inl e)
    · rcases hv k e with e2 | e2
      · exact h.out k (.inr e2)
      · exact .inr (by have := h.cd.1; omega)
  · rcases hk with e | e
    · exact h.mine k (.inl e)
    · rcases hv k e with e2 | e2
      · exact h.mine k (.inr e2)
      · have := h.dz; omega
theorem Apt.far {w w' : World} {gw : Nat} {v : Value} {q : Option Addr} {m c : Nat} {d : List Nat} {S : Nat → Prop} (h : Apt w gw v q m c d) (ho : Only S w w') (hS : ∀ a, q = some a → 0 < d.length → ¬ S a.block) : Apt w' gw v q m c d :=
  ⟨(vrow_far h.1 ho (Nat.le_refl _) (fun a ha h0 => hS a ha (by rwa [ints_length, zl_length] at h0))).mono ho.2.2.2.1, h.2⟩
theorem CW.more2 {D : Nat} {W0 w w' : World} {B C c gw : Nat} {v : Value} {l : List Bool} (h : CW D W0 B C c gw v l false w) {S : Nat → Prop} (ho : Only S w w') (hS : ∀ k, S k → D ≤ k ∧ C ≤ k ∧ ¬ Mine gw v k) : CW D W0 B C c gw v l false w' :=
  ⟨h.cd.only ho (fun k hk => .inr (hS k hk).2.1), Wr.only h.ws ho (fun e => (hS _ e).2.2 (.inl rfl)) (fun k hk e => (hS _ e).2.2 (.inr hk)), h.out, h.mine, h.bel.trans (ho.below h.dz (fun k hk e => by have := (hS k e).1; omega)), Nat.le_trans h.dz ho.2.2.2.1⟩
end Go.Proofs.YtidicajedckaoaaGreatDoor.Mh
