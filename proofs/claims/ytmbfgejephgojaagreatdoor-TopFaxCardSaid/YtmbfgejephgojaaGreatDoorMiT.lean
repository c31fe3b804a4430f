
/- Rows of bytes that came in; pages and chains of rows that are told are read. -/
import Derived.Test.YtmbfgejephgojaaGreatDoorMiR
import Derived.Test.YtmbfgejephgojaaGreatDoorMiN
import Derived.Deep.Slices
namespace Go.Proofs.YtmbfgejephgojaaGreatDoor.Mh
open Go.ChangeShapes Go.WideShapes Go.Deep Go.RowKit Go.Proofs.YtmbfgejephgojaaGreatDoor.Oct Go.Proofs.YtmbfgejephgojaaGreatDoor.Bit
open Go.Proofs.YtmbfgejephgojaaGreatDoor.Rn (changes zl zl_length Valid)
open Go.Proofs.YtmbfgejephgojaaGreatDoor.Lp (VRow ints ints_length)
set_option linter.unusedVariables false
set_option linter.unusedSimpArgs false
set_option maxRecDepth 100000

def IsBytess (w : World) (a : Option Addr) (len cap : Nat) : Prop :=
  len ≤ cap ∧ cap ≤ maxLen ∧ (0 < len → ∃ b off, a = some ⟨b, off, none⟩ ∧ b < w.heap.size ∧ ∀ i, i < len → ∃ (q : Option Addr) (l c : Nat) (xs : List UInt8), w.cell? ⟨b, off + i, none⟩ = some (.slice q l c) ∧ xs.length = l ∧ Row w q xs ∧ l ≤ c)
theorem open_row {H : Type} {enc : TypeId × Value → H} {w : World} {spare : Nat → Bool} {held : Bool} {fuel : Nat} {cs : List Value} {x : DataW H × List MemPlace}
    (h : DataW.trod enc Tryz.prog w 0 spare held fuel 22 cs = some x) : ∃ (q : Option Addr) (l c : Nat) (xs : List UInt8), cs = [.slice q l c] ∧ xs.length = l ∧ Row w q xs ∧ l ≤ c := by
  rcases ChangeShapes.open_ints Tryz.underlying22 Tryz.underlying5 (by kernel_rfl) h with ⟨hcs, _⟩ | ⟨ad, l, c, zs, hcs, _, hl, hm, hz, _, hcell, hwz⟩
  · exact ⟨none, 0, 0, [], hcs, rfl, fun h => absurd h (by simp), Nat.le_refl _⟩
  · have hzl : l ≤ zs.length := by rw [hz]; split <;> omega
    refine ⟨some ad, l, c, (zs.take l).map fun z => UInt8.ofNat z.toNat, hcs, by rw [List.length_map, List.length_take]; omega, fun hp => ?_, hl⟩
    rw [List.length_map, List.length_take] at hp
    obtain ⟨b, off, spot⟩ := ad
    have h0 := hcell 0 (by omega)
    have hs : spot = none := by simpa [Addr.add] using World.cell?_spot h0
    subst hs
    refine ⟨b, off, rfl, lt_of_cell h0, fun i hi => ?_⟩
    rw [List.length_map, List.length_take] at hi
    have h1 := hcell i (by omega)
    rw [Oct.add_plain] at h1
    rw [h1]
    have hg : zs.getD i 0 = zs[i]'(by omega) := by simp [List.getD, List.getElem?_eq_getElem (show i < zs.length by omega)]
    rw [hg]
    have hw := hwz _ (List.getElem_mem (show i < zs.length by omega))
    have hb : 0 ≤ zs[i]'(by omega) ∧ zs[i]'(by omega) ≤ 255 := by
      have h9 := hw
      simp [Lit.wf] at h9
      have e1 : IntKind.u8.min = 0 := by rfl
      have e2 : IntKind.u8.max = 255 := by rfl
      omega
    simp only [List.getElem_map, List.getElem_take]
    congr 2
    rw [UInt8.toNat_ofNat']
    omega
/-- rows, each told by the one above it -/
def chain (n : Nat) : List Nat → List (List Bool) → List Bool
  | _, [] => []
  | top, X :: Xs => againstA (changes X) top n 0 false ++ chain n (changes X) Xs
def lastT : List Nat → List (List Bool) → List Nat
  | top, [] => top
  | top, X :: Xs => lastT (changes X) Xs
theorem lastT_snoc : ∀ (R : List (List Bool)) (top : List Nat) (X : List Bool), lastT top (R ++ [X]) = changes X
  | [], top, X => rfl
  | Y :: R, top, X => lastT_snoc R (changes Y) X
theorem chain_snoc (n : Nat) : ∀ (R : List (List Bool)) (top : List Nat) (X : List Bool), chain n top (R ++ [X]) = chain n top R ++ againstA (changes X) (lastT top R) n 0 false
  | [], top, X => by simp [chain, lastT]
  | Y :: R, top, X => by
    rw [List.cons_append, chain, chain_snoc n R (changes Y) X, chain, lastT, List.append_assoc]
theorem pageP_pre : ∀ (rs : List (List Bool)) (l : List Bool), ∃ s, pageP l rs = l ++ s
  | [], l => ⟨[], by rw [List.append_nil]; rfl⟩
  | r :: rs, l => by
    obtain ⟨s, hs⟩ := pageP_pre rs (padL l ++ r)
    refine ⟨zs (8 * ((l.length + 7) / 8) - l.length) ++ (r ++ s), ?_⟩
    rw [pageP, hs]
    show (l ++ zs _) ++ r ++ s = _
    simp only [List.append_assoc]
theorem pageP_len (K : Nat) : ∀ (rs : List (List Bool)) (l : List Bool), (∀ r ∈ rs, r.length ≤ K) → (pageP l rs).length ≤ l.length + rs.length * (K + 7)
  | [], l, h => by simp [pageP]
  | r :: rs, l, h => by
    rw [pageP]
    have h1 := pageP_len K rs (padL l ++ r) (fun x hx => h x (by simp [hx]))
    rw [List.length_append, padL_length] at h1
    have := h r (by simp)
    rw [List.length_cons, Nat.succ_mul]
    omega
/-- pages that are told are read -/
theorem dec_page {L : List Bool} {wd : Nat} (h1 : 1 ≤ wd) : ∀ (R : List (List Bool)) (l : List Bool) (acc : List (List Bool)), (∀ X ∈ R, X.length = wd) → (∃ s, L = pageP l (R.map rowF) ++ s) → 8 * ((l.length + 7) / 8) ≤ L.length → decB L wd R.length l.length acc = .ok (acc ++ R)
  | [], l, acc, hw, hL, hb => by rw [List.append_nil]; rfl
  | X :: R, l, acc, hw, hL, hb => by
    have hX := hw X (by simp)
    obtain ⟨s, hs⟩ := hL
    rw [List.map_cons, pageP] at hs
    obtain ⟨s2, hs2⟩ := pageP_pre (R.map rowF) (padL l ++ rowF X)
    have hd : L.drop (8 * ((l.length + 7) / 8)) = rowF X ++ (s2 ++ s) := by
      rw [hs, hs2, List.append_assoc, List.append_assoc, List.drop_left' (padL_length l)]
    have hr := read_row (L := L) (r := s2 ++ s) (X := X) (at_ := 8 * ((l.length + 7) / 8)) (by omega) hd hb
    rw [hX] at hr
    rw [List.length_cons, decB, hr]
    simp only
    have hlen : 8 * ((l.length + 7) / 8) + (rowF X).length = (padL l ++ rowF X).length := by rw [List.length_append, padL_length]
    rw [hlen]
    have hpg : (padL l ++ rowF X).length ≤ L.length := by
      have h3 := congrArg List.length hs
      rw [List.length_append] at h3
      have := pageP_le (R.map rowF) (padL l ++ rowF X)
      omega
    by_cases hR : R = []
    · subst hR
      rfl
    · have h8 : 8 * (((padL l ++ rowF X).length + 7) / 8) ≤ L.length := by
        obtain ⟨Y, R2, rfl⟩ := List.exists_cons_of_ne_nil hR
        have h3 := congrArg List.length hs
        rw [List.length_append, List.map_cons, pageP] at h3
        have h4 := pageP_le (R2.map rowF) (padL (padL l ++ rowF X) ++ rowF Y)
        rw [List.length_append, padL_length] at h4
        omega
      rw [dec_page h1 R (padL l ++ rowF X) (acc ++ [X]) (fun Y hY => hw Y (by simp [hY])) ⟨s, hs⟩ h8, List.append_assoc]
      rfl
end Go.Proofs.YtmbfgejephgojaaGreatDoor.Mh
/- The walk of MhAgain. -/
namespace Go.Proofs.YtmbfgejephgojaaGreatDoor.Mh
open Go.RowKit Go.Proofs.YtmbfgejephgojaaGreatDoor.Oct Go.Proofs.YtmbfgejephgojaaGreatDoor.Bit
open Go.Proofs.YtmbfgejephgojaaGreatDoor.Fx (Tab Cd Out OutW WrP CW codes_any TrueT rd_only)
open Go.Proofs.YtmbfgejephgojaaGreatDoor.Rn (changes zl zl_length Valid)
open Go.Proofs.YtmbfgejephgojaaGreatDoor.Lp (VRow ints ints_length)
set_option linter.unusedVariables false
set_option linter.unusedSimpArgs false
set_option maxRecDepth 100000

/-- a row of places that stands apart from the writer's own blocks -/
def Apt (w : World) (gw : Nat) (v : Value) (q : Option Addr) (m c : Nat) (d : List Nat) : Prop := VRow w w.heap.size q (ints (zl d)) ∧ d.length = m ∧ m ≤ c ∧ ∀ a, q = some a → 0 < d.length → ¬ Mine gw v a.block
theorem Apt.wrote {w w' : World} {gw : Nat} {v v' : Value} {q : Option Addr} {m c : Nat} {d : List Nat} (h : Apt w gw v q m c d) (ho : Only (Mine gw v) w w') (hv : ∀ k, v'.ownBlock = some k → v.ownBlock = some k ∨ w.heap.size ≤ k) : Apt w' gw v' q m c d := by
  obtain ⟨h1, h2, h3, h4⟩ := h
  refine ⟨(vrow_far h1 ho (Nat.le_refl _) (fun a ha h0 => h4 a ha (by rwa [ints_length, zl_length] at h0))).mono ho.2.2.2.1, h2, h3, fun a ha h0 hm => ?_⟩
  rcases hm with e | e
  · exact h4 a ha h0 (.inl e)
  · rcases hv _ e with e2 | e2
    · exact h4 a ha h0 (.inr e2)
    · obtain ⟨b, off, e3, hb, _⟩ := h1 (by rw [ints_length, zl_length]; exact h0)
      rw [ha] at e3
      injection e3 with e3
      rw [e3] at e2
      simp only at e2
      omega
theorem Apt.more {w w' : World} {gw : Nat} {v : Value} {q : Option Addr} {m c : Nat} {d : List Nat} (h : Apt w gw v q m c d) (hb : Below w.heap.size w w') : Apt w' gw v q m c d :=
  ⟨(h.1.below hb (Nat.le_refl _)).mono hb.size, h.2⟩
theorem CW.wrote2 {D : Nat} {W0 w w' : World} {B C c gw : Nat} {v v' : Value} {l m : List Bool} (h : CW D W0 B C c gw v l false w) (hW : Ws w' gw v' (l ++ m) false) (ho : Only (Mine gw v) w w') (hv : ∀ k, v'.ownBlock = some k → v.ownBlock = some k ∨ w.heap.size ≤ k) : CW D W0 B C c gw v' (l ++ m) false w' := by
  have hz := ho.2.2.2.1
  refine ⟨h.cd.only ho h.out, hW, fun k hk => ?_, fun k hk => ?_, h.bel.trans (ho.below h.dz fun k hk hm => by have := h.mine k hm; omega), Nat.le_trans h.dz hz⟩
  · rcases hk with e | e
    · exact h.out k (.inl e)
    · rcases hv k e with e2 | e2
      · exact h.out k (.inr e2)
      · exact .inr (by have := h.cd.1; omega)
  · rcases hk with e | e
    · exact h.mine k (.inl e)
    · rcases hv k e with e2 | e2
      · exact h.mine k (.inr e2)
      · have := h.dz; omega
theorem Apt.far {w w' : World} {gw : Nat} {v : Value} {q : Option Addr} {m c : Nat} {d : List Nat} {S : Nat → Prop} (h : Apt w gw v q m c d) (ho : Only S w w') (hS : ∀ a, q = some a → 0 < d.length → ¬ S a.block) : Apt w' gw v q m c d :=
  ⟨(vrow_far h.1 ho (Nat.le_refl _) (fun a ha h0 => hS a ha (by rwa [ints_length, zl_length] at h0))).mono ho.2.2.2.1, h.2⟩
theorem CW.more2 {D : Nat} {W0 w w' : World} {B C c gw : Nat} {v : Value} {l : List Bool} (h : CW D W0 B C c gw v l false w) {S : Nat → Prop} (ho : Only S w w') (hS : ∀ k, S k → D ≤ k ∧ C ≤ k ∧ ¬ Mine gw v k) : CW D W0 B C c gw v l false w' :=
  ⟨h.cd.only ho (fun k hk => .inr (hS k hk).2.1), Wr.only h.ws ho (fun e => (hS _ e).2.2 (.inl rfl)) (fun k hk e => (hS _ e).2.2 (.inr hk)), h.out, h.mine, h.bel.trans (ho.below h.dz (fun k hk e => by have := (hS k e).1; omega)), Nat.le_trans h.dz ho.2.2.2.1⟩
end Go.Proofs.YtmbfgejephgojaaGreatDoor.Mh
