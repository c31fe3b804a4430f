
/- A pack in memory; packs compared by weight. -/
import Derived.Test.YtefniglinligeaaSmE
import Derived.Test.YtefniglinligeaaLmP
namespace Go.Proofs.Ytefniglinligeaa.Lp
open Go.Shelf Go.RowKit Go.Lib Go.Sort Go.Proofs.Ytefniglinligeaa.Sm Go.Proofs.Ytefniglinligeaa.Lm
set_option linter.unusedVariables false
set_option linter.unusedSimpArgs false

/-- a pack's three cells -/
structure Pk where
  wt : Int
  sym : Int
  ptr : Option Addr
  len : Nat
  cap : Nat
instance : Inhabited Pk := ⟨⟨0, 0, none, 0, 0⟩⟩
def encP (x : Pk) : List Value := [.int .i64 x.wt, .int .i64 x.sym, .slice x.ptr x.len x.cap]
theorem encP_len (x : Pk) : (encP x).length = 3 := rfl
theorem encP_one (x : Pk) : ∀ v ∈ encP x, v.oneCell' = true := fun v hv => by
  simp only [encP, List.mem_cons, List.not_mem_nil, or_false] at hv
  rcases hv with rfl | rfl | rfl <;> rfl
/-- what the comparison says -/
def cmpW (x y : Int) : Int := if x < y then -1 else if y < x then 1 else 0
def cmpP (x y : Pk) : Int := cmpW x.wt y.wt
theorem ltP (x y : Pk) : ltOf cmpP x y = decide (x.wt < y.wt) := by
  unfold ltOf cmpP cmpW
  by_cases h1 : x.wt < y.wt
  · simp [h1]
  · by_cases h2 : y.wt < x.wt <;> simp [h1, h2]
theorem swoP : SWO (ltOf cmpP) where
  irrefl x := by rw [ltP]; simp
  trans x y z h1 h2 := by rw [ltP] at *; simp at *; omega
  ntrans x y z h1 h2 := by rw [ltP] at *; simp at *; omega

theorem is_nan (x : Int) (W : World) : Calls Try.prog 29 #[.int .i64 x] W fun e w' => e = .returned (.bool false) ∧ w' = W := by
  go_enter Try.func29, Try.ntmps29
  go_wp2
  go_ret
  exact ⟨by simp, rfl⟩
theorem compare (x y : Int) (W : World) : Calls Try.prog 25 #[.int .i64 x, .int .i64 y] W fun e w' => e = .returned (.int .i64 (cmpW x y)) ∧ w' = W := by
  have h1 := is_nan x
  have h2 := is_nan y
  by_cases hlt : x < y
  · have hr : cmpW x y = -1 := by unfold cmpW; rw [if_pos hlt]
    rw [hr]
    go_enter Try.func25, Try.ntmps25
    go_wp2_with (go_at_call 29; first | (refine (h1 _).mono ?_; rintro e w' ⟨rfl, rfl⟩) | (refine (h2 _).mono ?_; rintro e w' ⟨rfl, rfl⟩))
    all_goals (go_ret; exact ⟨rfl, rfl⟩)
  · by_cases hgt : y < x
    · have hr : cmpW x y = 1 := by unfold cmpW; rw [if_neg hlt, if_pos hgt]
      rw [hr]
      go_enter Try.func25, Try.ntmps25
      go_wp2_with (go_at_call 29; first | (refine (h1 _).mono ?_; rintro e w' ⟨rfl, rfl⟩) | (refine (h2 _).mono ?_; rintro e w' ⟨rfl, rfl⟩))
      all_goals (go_ret; exact ⟨rfl, rfl⟩)
    · have hr : cmpW x y = 0 := by unfold cmpW; rw [if_neg hlt, if_neg hgt]
      rw [hr]
      go_enter Try.func25, Try.ntmps25
      go_wp2_with (go_at_call 29; first | (refine (h1 _).mono ?_; rintro e w' ⟨rfl, rfl⟩) | (refine (h2 _).mono ?_; rintro e w' ⟨rfl, rfl⟩))
      all_goals (go_ret; exact ⟨rfl, rfl⟩)

set_option maxHeartbeats 1000000 in
theorem closure (x y : Pk) (W : World) : Calls Try.prog 24 #[.agg #[.int .i64 x.wt, .int .i64 x.sym, .slice x.ptr x.len x.cap], .agg #[.int .i64 y.wt, .int .i64 y.sym, .slice y.ptr y.len y.cap]] W fun e w' => e = .returned (.int .i64 (cmpP x y)) ∧ ∃ q os', w' = grow (W.drewN q) os' := by
  have hcon := fun W' => compare x.wt y.wt W'
  have hr : cmpW x.wt y.wt = cmpP x y := rfl
  rw [hr] at hcon
  generalize cmpP x y = r at hcon ⊢
  clear hr
  go_enter Try.func24, Try.ntmps24
  go_wp2_with (go_at_call 25; refine (hcon _).mono ?_; rintro e w' ⟨rfl, rfl⟩)
  go_ret
  exact ⟨rfl, 0, _, by rw [alloc_eq_grow, alloc_eq_grow, grow_grow]; rfl⟩
theorem cmp_lays (blk off size : Nat) (w : World) : CmpLays Try.prog 24 #[] encP 3 cmpP blk off size w := fun _ _ _ _ x y => closure x y _
theorem closure_enters (args : Array Value) (w : World) : (callFunc 24 args).run Try.prog w = .ok (.enter 24 args) w := enters_of Try.func24 (by kernel_rfl) rfl args w

theorem sort_packs (blk off cap : Nat) (d : Array Pk) (w : World) (hH : HoldsK encP 3 w blk off d) (hblk : blk < w.heap.size) (hsz : d.size < 1000000000) :
    Calls Try.prog 23 #[.slice (some ⟨blk, off, none⟩) d.size cap, .func (.func 24) #[] #[]] w fun e w' => e = .returned (.tuple #[]) ∧ ∃ d', SWK encP 3 w blk off d' w' ∧ PermIn 0 d.size d d' ∧ SortedIn (ltOf cmpP) 0 d.size d' :=
  sort_stable encP cmpP swoP 24 #[] blk off cap d w closure_enters (cmp_lays _ _ _ _) ⟨encP_len, encP_one, hH, hblk⟩ hsz
end Go.Proofs.Ytefniglinligeaa.Lp
