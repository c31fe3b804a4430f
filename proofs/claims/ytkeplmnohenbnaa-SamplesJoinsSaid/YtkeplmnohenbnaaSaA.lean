
/- Rows of samples (numbers of 32 bits) in memory; contracts of package samples: Size, Pack. -/
import Derived.Test.YtkeplmnohenbnaaLpR
import Derived.Test.YtkeplmnohenbnaaSaM
import Derived.Test.YtkeplmnohenbnaaOzK
import Derived.Test.YtkeplmnohenbnaaBitY
namespace Go.Proofs.Ytkeplmnohenbnaa.Sa
open Go.RowKit Go.Proofs.Ytkeplmnohenbnaa.Oct Go.Proofs.Ytkeplmnohenbnaa.Bit
open Go.Proofs.Ytkeplmnohenbnaa.Lp (VRow vrow_blk vrow_own wpList_append_vals blk_set blk_far blk_frozen fillV fillV_length fillV_zero fillV_all fillV_step)
set_option linter.unusedVariables false
set_option linter.unusedSimpArgs false
set_option maxRecDepth 100000

def u32s (ns : List Nat) : List Value := ns.map fun n : Nat => .int .u32 (n : Int)
theorem u32s_length (ns : List Nat) : (u32s ns).length = ns.length := by simp [u32s]
theorem u32s_append (a b : List Nat) : u32s (a ++ b) = u32s a ++ u32s b := by simp [u32s]
theorem u32s_one {ns : List Nat} : ∀ v ∈ u32s ns, v.oneCell' = true := by
  intro v hv
  simp [u32s] at hv
  obtain ⟨x, _, rfl⟩ := hv
  rfl
theorem vrow_u32 {w : World} {C : Nat} {p : Option Addr} {ns : List Nat} (h : VRow w C p (u32s ns)) (i : Nat) (hi : i < ns.length) : ∃ b off, p = some ⟨b, off, none⟩ ∧ b < C ∧ w.cell? ⟨b, off + i, none⟩ = some (.int .u32 (ns[i] : Int)) := by
  obtain ⟨b, off, e, hlt, hc⟩ := h (by rw [u32s_length]; omega)
  refine ⟨b, off, e, hlt, ?_⟩
  rw [hc i (by rw [u32s_length]; exact hi)]
  simp [u32s]
theorem Try.infoU32 : (Try.prog.info? 45).map (fun i => (i.zero, i.size, i.bytes)) = some (some (.int .u32 0), 1, 4) := by kernel_rfl
/-- a slice of samples that came in -/
def IsU32 (w : World) (a : Option Addr) (len cap : Nat) : Prop :=
  ∃ ns : List Nat, ns.length = len ∧ VRow w w.heap.size a (u32s ns) ∧ (∀ n ∈ ns, n < 4294967296) ∧ len ≤ cap ∧ cap ≤ maxLen ∧ (a = none → cap = 0)
section
variable {H : Type} {enc : TypeId × Value → H} {w : World} {spare : Nat → Bool} {held : Bool}
theorem open_u32 {fuel : Nat} {a : Option Addr} {len cap : Nat} {x : DataW H × List MemPlace} (h : DataW.trod enc Try.prog w 0 spare held fuel 22 [.slice a len cap] = some x) : IsU32 w a len cap := by
  rcases ChangeShapes.open_ints Try.underlying22 Try.underlying45 (by kernel_rfl) h with ⟨hcs, _⟩ | ⟨ad, l, c, zs, hcs, _, hl, hm, hz, _, hcell, hwz⟩
  · simp at hcs
    obtain ⟨rfl, rfl, rfl⟩ := hcs
    exact ⟨[], rfl, fun h => absurd h (by simp [u32s]), fun n hn => absurd hn List.not_mem_nil, Nat.le_refl _, by simp [maxLen], fun _ => rfl⟩
  · simp at hcs
    obtain ⟨rfl, rfl, rfl⟩ := hcs
    have hzl : len ≤ zs.length := by rw [hz]; split <;> omega
    have hrange : ∀ z ∈ zs, 0 ≤ z ∧ z ≤ 4294967295 := fun z hz' => by
      have := hwz z hz'
      simp [Lit.wf, IntKind.min, IntKind.max, IntKind.bits, IntKind.signed] at this
      omega
    refine ⟨(zs.take len).map Int.toNat, by rw [List.length_map, List.length_take]; omega, fun hp => ?_, fun n hn => ?_, hl, hm, fun h => by cases h⟩
    · rw [u32s_length, List.length_map, List.length_take] at hp
      obtain ⟨b, off, spot⟩ := ad
      have h0 := hcell 0 (by omega)
      have hs : spot = none := by simpa [Addr.add] using World.cell?_spot h0
      subst hs
      refine ⟨b, off, rfl, lt_of_cell h0, fun i hi => ?_⟩
      rw [u32s_length, List.length_map, List.length_take] at hi
      have h1 := hcell i (by omega)
      rw [add_plain] at h1
      rw [h1]
      have hg : zs.getD i 0 = zs[i]'(by omega) := by simp [List.getD, List.getElem?_eq_getElem (show i < zs.length by omega)]
      have hr := hrange _ (List.getElem_mem (show i < zs.length by omega))
      rw [hg]
      simp only [u32s, List.getElem_map, List.getElem_take]
      congr 2
      omega
    · obtain ⟨z, hz', rfl⟩ := List.mem_map.1 hn
      have := hrange z (List.mem_of_mem_take hz')
      omega
end
/-- can there be so many samples of so many bits? -/
def okS (n wide : Int) : Bool := decide (0 ≤ n ∧ n ≤ 4194304 ∧ 1 ≤ wide ∧ wide ≤ 32)
def sizeV (n wide : Int) : Int := if okS n wide then (n * wide + 7) / 8 else 0
def sizeE (n wide : Int) : Int := if okS n wide then 0 else 1
def SizeP (w : World) (n wide : Int) (e : Ending) (w' : World) : Prop := e = .returned (.tuple #[.int .i64 (sizeV n wide), .int .i64 (sizeE n wide)]) ∧ w = w'
theorem ok_bounds {n wide : Int} (h : okS n wide = true) : 0 ≤ n ∧ n ≤ 4194304 ∧ 1 ≤ wide ∧ wide ≤ 32 := of_decide_eq_true h
theorem ok_prod {n wide : Int} (h : okS n wide = true) : 0 ≤ n * wide ∧ n * wide ≤ 134217728 := by
  obtain ⟨h1, h2, h3, h4⟩ := ok_bounds h
  refine ⟨Int.mul_nonneg h1 (by omega), ?_⟩
  have := Int.mul_le_mul h2 h4 (by omega) (by omega)
  omega
theorem size_any (n wide : Int) (w : World) : Calls Try.prog 10 #[.int .i64 n, .int .i64 wide] w (SizeP w n wide) := by
  by_cases h1 : n < 0
  · have e : okS n wide = false := by simp [okS]; omega
    have d1 : decide (n < 0) = true := by simpa using h1
    have e1 : sizeV n wide = 0 := by unfold sizeV; rw [e]; rfl
    have e2 : sizeE n wide = 1 := by unfold sizeE; rw [e]; rfl
    unfold SizeP
    rw [e1, e2]
    clear e e1 e2 h1
    go_enter Try.func10, Try.ntmps10
    go_wp2_with fail
    go_ret2
    exact ⟨rfl, rfl⟩
  have d1 : decide (n < 0) = false := by simpa using h1
  by_cases h2 : 4194304 < n
  · have e : okS n wide = false := by simp [okS]; omega
    have d2 : decide (4194304 < n) = true := by simpa using h2
    have e1 : sizeV n wide = 0 := by unfold sizeV; rw [e]; rfl
    have e2 : sizeE n wide = 1 := by unfold sizeE; rw [e]; rfl
    unfold SizeP
    rw [e1, e2]
    clear e e1 e2 h1 h2
    go_enter Try.func10, Try.ntmps10
    go_wp2_with fail
    go_ret2
    exact ⟨rfl, rfl⟩
  have d2 : decide (4194304 < n) = false := by simpa using h2
  by_cases h3 : wide < 1
  · have e : okS n wide = false := by simp [okS]; omega
    have d3 : decide (wide < 1) = true := by simpa using h3
    have e1 : sizeV n wide = 0 := by unfold sizeV; rw [e]; rfl
    have e2 : sizeE n wide = 1 := by unfold sizeE; rw [e]; rfl
    unfold SizeP
    rw [e1, e2]
    clear e e1 e2 h1 h2 h3
    go_enter Try.func10, Try.ntmps10
    go_wp2_with fail
    go_ret2
    exact ⟨rfl, rfl⟩
  have d3 : decide (wide < 1) = false := by simpa using h3
  by_cases h4 : 32 < wide
  · have e : okS n wide = false := by simp [okS]; omega
    have d4 : decide (32 < wide) = true := by simpa using h4
    have e1 : sizeV n wide = 0 := by unfold sizeV; rw [e]; rfl
    have e2 : sizeE n wide = 1 := by unfold sizeE; rw [e]; rfl
    unfold SizeP
    rw [e1, e2]
    clear e e1 e2 h1 h2 h3 h4
    go_enter Try.func10, Try.ntmps10
    go_wp2_with fail
    go_ret2
    exact ⟨rfl, rfl⟩
  have d4 : decide (32 < wide) = false := by simpa using h4
  have e : okS n wide = true := by simp [okS]; omega
  have hp := ok_prod e
  have e1 : sizeV n wide = (n * wide + 7) / 8 := by unfold sizeV; rw [e]; rfl
  have e2 : sizeE n wide = 0 := by unfold sizeE; rw [e]; rfl
  unfold SizeP
  rw [e1, e2]
  obtain ⟨m, hm⟩ : ∃ m, m = n * wide := ⟨_, rfl⟩
  rw [← hm] at hp ⊢
  have hw : IntKind.i64.wrap (n * wide) = m := by
    rw [← hm, IntKind.wrap_i64]
    omega
  have hw2 : wrap64 (n * wide) = m := by
    rw [← hm]
    unfold wrap64
    omega
  obtain ⟨hp1, hp2⟩ := hp
  clear e e1 e2 h1 h2 h3 h4 hm
  go_enter Try.func10, Try.ntmps10
  go_wp2_with fail
  go_ret2
  exact ⟨rfl, rfl⟩
end Go.Proofs.Ytkeplmnohenbnaa.Sa
