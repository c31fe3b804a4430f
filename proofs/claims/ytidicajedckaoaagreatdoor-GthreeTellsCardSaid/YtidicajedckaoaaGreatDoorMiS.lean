
/- Rows of bytes that came in; pages and chains of rows that are told are read. -/
import Derived.Test.YtidicajedckaoaaGreatDoorMiR
import Derived.Test.YtidicajedckaoaaGreatDoorMiN
import Derived.Deep.Slices
namespace Go.Proofs.YtidicajedckaoaaGreatDoor.Mh
open Go.ChangeShapes Go.WideShapes Go.Deep Go.RowKit Go.Proofs.YtidicajedckaoaaGreatDoor.Oct Go.Proofs.YtidicajedckaoaaGreatDoor.Bit
open Go.Proofs.YtidicajedckaoaaGreatDoor.Rn (changes zl zl_length Valid)
open Go.Proofs.YtidicajedckaoaaGreatDoor.Lp (VRow ints ints_length)
set_option linter.unusedVariables false
set_option linter.unusedSimpArgs false
set_option maxRecDepth 100000

def IsBytess (w : World) (a : Option Addr) (len cap : Nat) : Prop :=
  len ≤ cap ∧ cap ≤ maxLen ∧ (0 < len → ∃ b off, a = some ⟨b, off, none⟩ ∧ b < w.heap.size ∧ ∀ i, i < len → ∃ (q : Option Addr) (l c : Nat) (xs : List UInt8), w.cell? ⟨b, off + i, none⟩ = some (.slice q l c) ∧ xs.length = l ∧ Row w q xs ∧ l ≤ c)
theorem open_row {H : Type} {enc : TypeId × Value → H} {w : World} {spare : Nat → Bool} {held : Bool} {fuel : Nat} {cs : List Value} {x : DataW H × List MemPlace}
    (h : DataW.trod enc Tryz.prog w 0 spare held fuel 30 cs = some x) : ∃ (q : Option Addr) (l c : Nat) (xs : List UInt8), cs = [.slice q l c] ∧ xs.length = l ∧ Row w q xs ∧ l ≤ c := by
  rcases ChangeShapes.open_ints Tryz.underlying30 Tryz.underlying5 (by kernel_rfl) h with ⟨hcs, _⟩ | ⟨ad, l, c, zs, hcs, _, hl, hm, hz, _, hcell, hwz⟩
  · exact ⟨none, 0, 0, [], hcs, rfl, fun h => absurd h (by simp), Nat.le_refl _⟩
  · have hzl : l ≤ zs.length := by rw [hz]; split <;> omega
    refine ⟨some ad, l, c, (zs.take l).map fun z => UInt8.ofNat z.toNat, hcs, by rw [List.length_map, List.length_take]; omega, fun hp => ?_, hl⟩
    rw [List.length_map, List.length_take] at hp
    obtain ⟨b, off, spot⟩ := ad
    have h0 := hcell 0 (by omega)
    have hs : spot = none := by simpa [Addr.add] using World.cell?_spot h0
    subst hs
    refine ⟨b, off, rfl, lt_of_cell h0, fun i hi => ?_⟩
    rw [List.length_map, List.length_take] at hi
    have h1 := hcell i (by omega)
    rw [Oct.add_plain] at h1
    rw [h1]
    have hg : zs.getD i 0 = zs[i]'(by omega) := by simp [List.getD, List.getElem?_eq_getElem (show i < zs.length by omega)]
    rw [hg]
    have hw := hwz _ (List.getElem_mem (show i < zs.length by omega))
    have hb : 0 ≤ zs[i]'(by omega) ∧ zs[i]'(by omega) ≤ 255 := by
      have h9 := hw
      simp [Lit.wf] at h9
      have e1 : IntKind.u8.min = 0 := by rfl
      have e2 : IntKind.u8.max = 255 := by rfl
      omega
    simp only [List.getElem_map, List.getElem_take]
    congr 2
    rw [UInt8.toNat_ofNat']
    omega
theorem open_bytess {H : Type} {enc : TypeId × Value → H} {w : World} {spare : Nat → Bool} {held : Bool} {fuel : Nat} {a : Option Addr} {len cap : Nat} {x : DataW H × List MemPlace}
    (h : DataW.trod enc Tryz.prog w 0 spare held fuel 22 [.slice a len cap] = some x) : IsBytess w a len cap := by
  have hC : Tryz.prog.cellsOf 30 = 1 := by kernel_rfl
  rcases open_slice Tryz.underlying22 h with ⟨hcs, _⟩ | ⟨ad, l, c, m, n, D, Pl, hcs, hb, hl, hm, hmm, _, hi⟩
  · simp at hcs
    obtain ⟨rfl, rfl, rfl⟩ := hcs
    exact ⟨Nat.le_refl _, by simp [maxLen], fun h => by omega⟩
  · simp at hcs
    obtain ⟨rfl, rfl, rfl⟩ := hcs
    refine ⟨hl, hm, fun hp => ?_⟩
    have hlm : len ≤ m := by rw [hmm]; split <;> omega
    obtain ⟨b, off, spot⟩ := ad
    have key : ∀ i, i < len → ∃ (q : Option Addr) (l c : Nat) (xs : List UInt8), w.cell? ((⟨b, off, spot⟩ : Addr).add i) = some (.slice q l c) ∧ xs.length = l ∧ Row w q xs ∧ l ≤ c := by
      intro i hil
      obtain ⟨cs', hc, ht⟩ := hi i (by omega)
      rw [hC, Nat.mul_one] at hc
      obtain ⟨_, hcl, hat⟩ := World.cells?_some hc
      obtain ⟨q, l, c, xs, hx, h1, h2, h3⟩ := open_row ht
      subst hx
      have h0 := hat 0 (by omega)
      have e : ((⟨b, off, spot⟩ : Addr).add i).add 0 = (⟨b, off, spot⟩ : Addr).add i := by cases spot <;> simp [Addr.add]
      rw [e] at h0
      exact ⟨q, l, c, xs, h0, h1, h2, h3⟩
    have hs : spot = none := by
      obtain ⟨q, l, c, xs, hx, _⟩ := key 0 hp
      simpa [Addr.add] using World.cell?_spot hx
    subst hs
    have key' : ∀ i, i < len → ∃ (q : Option Addr) (l c : Nat) (xs : List UInt8), w.cell? ⟨b, off + i, none⟩ = some (.slice q l c) ∧ xs.length = l ∧ Row w q xs ∧ l ≤ c := fun i hi => by
      obtain ⟨q, l, c, xs, hx, hr⟩ := key i hi
      rw [Oct.add_plain] at hx
      exact ⟨q, l, c, xs, hx, hr⟩
    obtain ⟨q, l, c, xs, hx, _⟩ := key' 0 hp
    exact ⟨b, off, rfl, lt_of_cell hx, key'⟩
/-- rows, each told by the one above it -/
def chain (n : Nat) : List Nat → List (List Bool) → List Bool
  | _, [] => []
  | top, X :: Xs => againstA (changes X) top n 0 false ++ chain n (changes X) Xs
def lastT : List Nat → List (List Bool) → List Nat
  | top, [] => top
  | top, X :: Xs => lastT (changes X) Xs
theorem lastT_snoc : ∀ (R : List (List Bool)) (top : List Nat) (X : List Bool), lastT top (R ++ [X]) = changes X
  | [], top, X => rfl
  | Y :: R, top, X => lastT_snoc R (changes Y) X
theorem chain_snoc (n : Nat) : ∀ (R : List (List Bool)) (top : List Nat) (X : List Bool), chain n top (R ++ [X]) = chain n top R ++ againstA (changes X) (lastT top R) n 0 false
  | [], top, X => by simp [chain, lastT]
  | Y :: R, top, X => by
    rw [List.cons_append, chain, chain_snoc n R (changes Y) X, chain, lastT, List.append_assoc]
theorem pageP_pre : ∀ (rs : List (List Bool)) (l : List Bool), ∃ s, pageP l rs = l ++ s
  | [], l => ⟨[], by rw [List.append_nil]; rfl⟩
  | r :: rs, l => by
    obtain ⟨s, hs⟩ := pageP_pre rs (padL l ++ r)
    refine ⟨zs (8 * ((l.length + 7) / 8) - l.length) ++ (r ++ s), ?_⟩
    rw [pageP, hs]
    show (l ++ zs _) ++ r ++ s = _
    simp only [List.append_assoc]
theorem pageP_len (K : Nat) : ∀ (rs : List (List Bool)) (l : List Bool), (∀ r ∈ rs, r.length ≤ K) → (pageP l rs).length ≤ l.length + rs.length * (K + 7)
  | [], l, h => by simp [pageP]
  | r :: rs, l, h => by
    rw [pageP]
    have h1 := pageP_len K rs (padL l ++ r) (fun x hx => h x (by simp [hx]))
    rw [List.length_append, padL_length] at h1
    have := h r (by simp)
    rw [List.length_cons, Nat.succ_mul]
    omega
/-- pages that are told are read -/
theorem dec_page {L : List Bool} {wd : Nat} (h1 : 1 ≤ wd) : ∀ (R : List (List Bool)) (l : List Bool) (acc : List (List Bool)), (∀ X ∈ R, X.length = wd) → (∃ s, L = pageP l (R.map rowF) ++ s) → 8 * ((l.length + 7) / 8) ≤ L.length → decB L wd R.length l.length acc = .ok (acc ++ R)
  | [], l, acc, hw, hL, hb => by rw [List.append_nil]; rfl
  | X :: R, l, acc, hw, hL, hb => by
    have hX := hw X (by simp)
    obtain ⟨s, hs⟩ := hL
    rw [List.map_cons, pageP] at hs
    obtain ⟨s2, hs2⟩ := pageP_pre (R.map rowF) (padL l ++ rowF X)
    have hd : L.drop (8 * ((l.length + 7) / 8)) = rowF X ++ (s2 ++ s) := by
      rw [hs, hs2, List.append_assoc, List.append_assoc, List.drop_left' (padL_length l)]
    have hr := read_row (L := L) (r := s2 ++ s) (X := X) (at_ := 8 * ((l.length + 7) / 8)) (by omega) hd hb
    rw [hX] at hr
    rw [List.length_cons, decB, hr]
    simp only
    have hlen : 8 * ((l.length + 7) / 8) + (rowF X).length = (padL l ++ rowF X).length := by rw [List.length_append, padL_length]
    rw [hlen]
    have hpg : (padL l ++ rowF X).length ≤ L.length := by
      have h3 := congrArg List.length hs
      rw [List.length_append] at h3
      have := pageP_le (R.map rowF) (padL l ++ rowF X)
      omega
    by_cases hR : R = []
    · subst hR
      rfl
    · have h8 : 8 * (((padL l ++ rowF X).length + 7) / 8) ≤ L.length := by
        obtain ⟨Y, R2, rfl⟩ := List.exists_cons_of_ne_nil hR
        have h3 := congrArg List.length hs
        rw [List.length_append, List.map_cons, pageP] at h3
        have h4 := pageP_le (R2.map rowF) (padL (padL l ++ rowF X) ++ rowF Y)
        rw [List.length_append, padL_length] at h4
        omega
      rw [dec_page h1 R (padL l ++ rowF X) (acc ++ [X]) (fun Y hY => hw Y (by simp [hY])) ⟨s, hs⟩ h8, List.append_assoc]
      rfl
end Go.Proofs.YtidicajedckaoaaGreatDoor.Mh
