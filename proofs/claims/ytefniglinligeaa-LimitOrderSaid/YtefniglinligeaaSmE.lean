
/- Sorting a row of packs: blocks first, then merges of twice as many. -/
import Derived.Test.YtefniglinligeaaSmD
namespace Go.Proofs.Ytefniglinligeaa.Sm
open Go.Shelf Go.RowKit Go.Lib Go.Sort
set_option linter.unusedVariables false
set_option linter.unusedSimpArgs false
variable {α : Type} [Inhabited α] {lt : α → α → Bool}

/-- each stretch of so many is sorted -/
def Runs (lt : α → α → Bool) (s n : Nat) (d : Array α) : Prop := ∀ t, SortedIn lt (t * s) (min ((t + 1) * s) n) d
theorem Runs.zero {s : Nat} {d : Array α} : Runs lt s 0 d := fun t => sorted_none (by simp)
theorem Runs.next {s c y : Nat} {d e : Array α} (h : Runs lt s (c * s) d) (hp : PermIn (c * s) y d e) (hs : SortedIn lt (c * s) y e) (hy : y ≤ c * s + s) (hcy : c * s ≤ y) : Runs lt s y e := by
  intro t
  rcases Nat.lt_trichotomy t c with h1 | h1 | h1
  · have h2 : (t + 1) * s ≤ c * s := Nat.mul_le_mul_right s h1
    have h3 := h t
    rw [Nat.min_eq_left h2] at h3
    rw [Nat.min_eq_left (by omega)]
    exact sorted_out hp h3 (Or.inl h2)
  · subst h1
    exact SortedIn.sub hs (Nat.le_refl _) (Nat.min_le_right _ _)
  · have h2 : (c + 1) * s ≤ t * s := Nat.mul_le_mul_right s h1
    rw [Nat.succ_mul] at h2
    exact sorted_none (by have := Nat.min_le_right ((t + 1) * s) y; omega)
theorem Runs.end_ {s c n : Nat} {d : Array α} (h : Runs lt s (c * s) d) (hs : SortedIn lt (c * s) n d) (hn : n ≤ c * s + s) (hcy : c * s ≤ n) : Runs lt s n d := Runs.next h (permIn_refl _ _ _) hs hn hcy
theorem Runs.all {s n : Nat} {d : Array α} (h : Runs lt s n d) (hn : n ≤ s) : SortedIn lt 0 n d := by
  have := h 0
  rw [Nat.zero_mul, Nat.zero_add, Nat.one_mul, Nat.min_eq_right hn] at this
  exact this
/-- the stretches from a place on -/
def From (lt : α → α → Bool) (s a n : Nat) (d : Array α) : Prop := ∀ t, a ≤ t * s → SortedIn lt (t * s) (min ((t + 1) * s) n) d
theorem From.next {s a b n : Nat} {d e : Array α} (h : From lt s a n d) (hp : PermIn a b d e) (hb : a ≤ b) : From lt s b n e := fun t ht => sorted_out hp (h t (by omega)) (Or.inr ht)

theorem From.two {s c a n : Nat} {d : Array α} (h : From lt s a n d) (ha : a = c * (2 * s)) : SortedIn lt a (min (a + s) n) d ∧ SortedIn lt (a + s) (min (a + s + s) n) d := by
  have e : 2 * c * s = a := by rw [ha, Nat.mul_comm 2 c, Nat.mul_assoc]
  have e1 : (2 * c + 1) * s = a + s := by rw [Nat.succ_mul, e]
  have e2 : (2 * c + 1 + 1) * s = a + s + s := by rw [Nat.succ_mul, e1]
  have h1 := h (2 * c) (by omega)
  have h2 := h (2 * c + 1) (by omega)
  rw [e, e1] at h1
  rw [e1, e2] at h2
  exact ⟨h1, h2⟩

/-- the numbers of the library's sort, here -/
def ren : Ren := ⟨fun n => if n = 20 then 30 else n, fun n => if n = 22 then 36 else if n = 24 then 39 else if n = 25 then 49 else if n = 3 then 3 else if n = 4 then 4 else n, fun n => n⟩
theorem lays20 : SlLaysF0.n20 Try.prog ren where
  mixed := by kernel_rfl
  f20 := ⟨ "slices.insertionSortCmpFunc[mezzotint/limit.pack]", by kernel_rfl, by kernel_rfl⟩
  t0 := by kernel_rfl
  a0 _ := by kernel_rfl
  z0 _ := by kernel_rfl
  v0 _ := by kernel_rfl
  t3 := by kernel_rfl
  a3 _ := by kernel_rfl
  z3 _ := by kernel_rfl
  v3 _ := by kernel_rfl
  t4 := by kernel_rfl
  a4 _ := by kernel_rfl
  z4 _ := by kernel_rfl
  v4 _ := by kernel_rfl
  t22 := by kernel_rfl
  a22 _ := by kernel_rfl
  z22 _ := by kernel_rfl
  v22 _ := by kernel_rfl
  t25 := by kernel_rfl
  a25 _ := by kernel_rfl
  z25 _ := by kernel_rfl
  v25 _ := by kernel_rfl

theorem insertion (enc : α → List Value) (cf : α → α → Int) (hO : SWO (ltOf cf)) (g : Nat) (cb : Array Value) (blk off cap a b : Nat) (d0 d : Array α) (w0 w : World) (eg : ∀ args w, (callFunc g args).run Try.prog w = .ok (.enter g args) w) (hcmp : CmpLays Try.prog g cb enc 3 cf blk off d0.size w0)
    (R : RowK enc 3 w0 blk off d0) (hs : d0.size = d.size) (S : SWK enc 3 w0 blk off d w) (hab : a ≤ b) (hb : b ≤ d.size) (hsz : d.size < 4611686018427387904) :
    Calls Try.prog 30 #[.slice (some ⟨blk, off, none⟩) d.size cap, .int .i64 a, .int .i64 b, .func (.func g) #[] cb] w fun e w' => e = .returned (.tuple #[]) ∧ ∃ d', SWK enc 3 w0 blk off d' w' ∧ PermIn a b d d' ∧ SortedIn (ltOf cf) a b d' := by
  have h := AnyQ.insertionSortCmpFunc_w lays20 3 (fun w => lays.aE w) sizeP enc cf g cb blk off cap a b d0 d w0 w eg hcmp R hs S hO hab hb hsz
  have e : ren.f 20 = 30 := rfl
  rw [e] at h
  have hh := insertionSort_holds hO d a b hab hb
  exact h.mono fun _ _ ⟨he, hw⟩ => ⟨he, _, hw, hh.1, hh.2⟩

set_option maxHeartbeats 8000000 in
set_option maxRecDepth 1000000 in
theorem stable (enc : α → List Value) (cf : α → α → Int) (hO : SWO (ltOf cf)) (g : Nat) (cb : Array Value) (blk off cap : Nat) (d : Array α) (w : World) (eg : ∀ args w, (callFunc g args).run Try.prog w = .ok (.enter g args) w) (hcmp : CmpLays Try.prog g cb enc 3 cf blk off d.size w)
    (R : RowK enc 3 w blk off d) (hsz : d.size < 1000000000) :
    Calls Try.prog 28 #[.slice (some ⟨blk, off, none⟩) d.size cap, .int .i64 d.size, .func (.func g) #[] cb] w fun e w' => e = .returned (.tuple #[]) ∧ ∃ d', SWK enc 3 w blk off d' w' ∧ PermIn 0 d.size d d' ∧ SortedIn (ltOf cf) 0 d.size d' := by
  have INS : Hid (∀ a b d' w', d.size = d'.size → SWK enc 3 w blk off d' w' → a ≤ b → b ≤ d'.size → Calls Try.prog 30 #[.slice (some ⟨blk, off, none⟩) d'.size cap, .int .i64 a, .int .i64 b, .func (.func g) #[] cb] w' fun e w'' => e = .returned (.tuple #[]) ∧ ∃ d'', SWK enc 3 w blk off d'' w'' ∧ PermIn a b d' d'' ∧ SortedIn (ltOf cf) a b d'') :=
    fun a b d' w' hs S hab hb => insertion enc cf hO g cb blk off cap a b d d' w w' eg hcmp R hs S hab hb (by omega)
  have SYM : Hid (∀ a m b d' w', d.size = d'.size → SWK enc 3 w blk off d' w' → a < m → m < b → b ≤ d'.size → SortedIn (ltOf cf) a m d' → SortedIn (ltOf cf) m b d' → Calls Try.prog 31 #[.slice (some ⟨blk, off, none⟩) d'.size cap, .int .i64 a, .int .i64 m, .int .i64 b, .func (.func g) #[] cb] w' fun e w'' => e = .returned (.tuple #[]) ∧ ∃ d'', SWK enc 3 w blk off d'' w'' ∧ PermIn a b d' d'' ∧ SortedIn (ltOf cf) a b d'') :=
    fun a m b d' w' hs S h1 h2 h3 s1 s2 => sym_merge lays 3 sizeP enc cf hO g cb blk off cap d w eg hcmp R (by omega) (b - a + 1) a m b d' w' (by omega) hs S h1 h2 h3 s1 s2
  have S0 : Hid (SWK enc 3 w blk off d w) := SWK.start R.hH
  obtain ⟨n, hn⟩ : ∃ n, n = d.size := ⟨_, rfl⟩
  rw [← hn] at hsz ⊢
  have HN : Hid (n = d.size) := hn
  have HO : Hid (SWO (ltOf cf)) := hO
  clear hn hcmp R hO eg
  go_enter Try.func28, Try.ntmps28
  go_wp2
  go_loopg [7, 8] n (fun kx s7 s8 wr => ∃ (c a b : Nat) (dk : Array α), s7 = .int .i64 a ∧ s8 = .int .i64 b ∧ b = a + 20 ∧ a ≤ n ∧ n - a ≤ kx ∧ Hid (a = c * 20 ∧ SWK enc 3 w blk off dk wr ∧ PermIn 0 n d dk ∧ Runs (ltOf cf) 20 a dk))
  case atStart => exact ⟨0, 0, 20, d, rfl, rfl, rfl, by omega, by omega, ⟨rfl, S0.out, permIn_refl _ _ _, Runs.zero⟩⟩
  case round =>
    clear S0
    obtain ⟨c, a, b, dk, rfl, rfl, hb, han, hkx, H⟩ := hrel
    have HB : Hid (b = a + 20) := hb
    have hds : dk.size = n := by rw [HN.out]; exact H.out.2.2.1.1
    by_cases hlt : b ≤ n
    · have hltz : (b : Int) ≤ (n : Int) := by omega
      have hcc := INS.out a b dk wr (by have := HN.out; omega) H.out.2.1 (by omega) (by omega)
      rw [hds] at hcc
      have wb : IntKind.i64.wrap ((b : Int) + 20) = ((b + 20 : Nat) : Int) := by rw [IntKind.wrap_i64]; omega
      obtain ⟨b2, hb2⟩ : ∃ b2, b2 = b + 20 := ⟨_, rfl⟩
      rw [← hb2] at wb
      have HB2 : Hid (b2 = b + 20) := hb2
      clear hb hb2
      go_wp2_with (go_at_call 30; refine hcc.mono ?_; rintro e w' ⟨rfl, d', S2, hp, hs⟩)
      have hB := HB.out
      have hB2 := HB2.out
      go_roundg (n - b)
      case measure => omega
      case rel =>
        obtain ⟨e1, e2, e3, e4⟩ := H.out
        refine ⟨c + 1, b, b2, d', rfl, rfl, hB2, by omega, Nat.le_refl _, ⟨by omega, S2, permIn_trans _ _ _ _ _ e3 (permIn_mono _ _ _ _ _ _ (Nat.zero_le _) hlt (by omega) hp), ?_⟩⟩
        rw [e1] at e4 hp hs
        exact Runs.next e4 hp hs (by omega) (by omega)
    · have hltz : ¬ (b : Int) ≤ (n : Int) := by omega
      have hcc := INS.out a n dk wr (by have := HN.out; omega) H.out.2.1 (by omega) (by omega)
      rw [hds] at hcc
      clear hb
      have hpl : a = c * 20 ∧ PermIn 0 n d dk ∧ Runs (ltOf cf) 20 a dk := ⟨H.out.1, H.out.2.2.1, H.out.2.2.2⟩
      have HPL : Hid (a = c * 20 ∧ PermIn 0 n d dk ∧ Runs (ltOf cf) 20 a dk) := hpl
      clear hpl H
      go_wp2_with (go_at_call 30; refine hcc.mono ?_; rintro e w' ⟨rfl, d', S2, hp, hs⟩)
      have S3 : Hid (SWK enc 3 w blk off d' w' ∧ PermIn 0 n d d' ∧ Runs (ltOf cf) 20 n d') := by
        obtain ⟨e1, e2, e3⟩ := HPL.out
        have hB := HB.out
        refine ⟨S2, permIn_trans _ _ _ _ _ e2 (permIn_mono _ _ _ _ _ _ (Nat.zero_le _) (Nat.le_refl _) (by omega) hp), ?_⟩
        rw [e1] at e3 hp hs
        exact Runs.next e3 hp hs (by omega) (by omega)
      clear S2 hp hs HPL HB
      go_loopg [6] n (fun kx s6 wr => ∃ (s : Nat) (dk : Array α), s6 = .int .i64 s ∧ 0 < s ∧ s ≤ n + n + 40 ∧ n - s ≤ kx ∧ Hid (SWK enc 3 w blk off dk wr ∧ PermIn 0 n d dk ∧ Runs (ltOf cf) s n dk))
      case atStart => exact ⟨20, d', rfl, by omega, by omega, by omega, S3⟩
      case round =>
        clear S3
        obtain ⟨s, dk, rfl, hs0, hs1, hkx, H⟩ := hrel
        by_cases hlt2 : s < n
        · have hltz2 : (s : Int) < (n : Int) := by omega
          obtain ⟨s2, hs2⟩ : ∃ s2, s2 = 2 * s := ⟨_, rfl⟩
          have ws : IntKind.i64.wrap (2 * (s : Int)) = (s2 : Int) := by rw [IntKind.wrap_i64]; omega
          have ws' : IntKind.i64.wrap ((s : Int) * 2) = (s2 : Int) := by rw [IntKind.wrap_i64]; omega
          have HS2 : Hid (s2 = 2 * s) := hs2
          have S3 : Hid (SWK enc 3 w blk off dk wr ∧ PermIn 0 n d dk ∧ Runs (ltOf cf) s2 0 dk ∧ From (ltOf cf) s 0 n dk) := ⟨H.out.1, H.out.2.1, Runs.zero, fun t _ => H.out.2.2 t⟩
          clear hs2 H
          go_wp2
          go_loopg [7, 8] n (fun kx s7 s8 wr => ∃ (c a b : Nat) (dk : Array α), s7 = .int .i64 a ∧ s8 = .int .i64 b ∧ b = a + s2 ∧ a ≤ n ∧ n - a ≤ kx ∧ Hid (a = c * s2 ∧ SWK enc 3 w blk off dk wr ∧ PermIn 0 n d dk ∧ Runs (ltOf cf) s2 a dk ∧ From (ltOf cf) s a n dk))
          case atStart => exact ⟨0, 0, s2, dk, rfl, rfl, by omega, by omega, by omega, ⟨by rw [Nat.zero_mul], S3.out⟩⟩
          case round =>
            clear S3
            obtain ⟨c, a, b, dk, rfl, rfl, hb, han, hkx, H⟩ := hrel
            have HB : Hid (b = a + s2) := hb
            have hds : dk.size = n := by rw [HN.out]; exact H.out.2.2.1.1
            have hS2 := HS2.out
            obtain ⟨q1, q2⟩ := From.two H.out.2.2.2.2 (c := c) (by have := H.out.1; rw [hS2] at this; exact this)
            obtain ⟨m, hm⟩ : ∃ m, m = a + s := ⟨_, rfl⟩
            have wm : IntKind.i64.wrap ((a : Int) + (s : Int)) = (m : Int) := by rw [IntKind.wrap_i64]; omega
            have HM : Hid (m = a + s) := hm
            rw [← hm] at q1 q2
            by_cases hbn : b ≤ n
            · have hbz : (b : Int) ≤ (n : Int) := by omega
              have hcc := SYM.out a m b dk wr (by have := HN.out; omega) H.out.2.1 (by omega) (by omega) (by omega) (by rw [Nat.min_eq_left (by omega)] at q1; exact q1) (by rw [Nat.min_eq_left (by omega)] at q2; rw [show b = m + s by omega]; exact q2)
              rw [hds] at hcc
              obtain ⟨b2, hb2⟩ : ∃ b2, b2 = b + s2 := ⟨_, rfl⟩
              have wb : IntKind.i64.wrap ((b : Int) + (s2 : Int)) = (b2 : Int) := by rw [IntKind.wrap_i64]; omega
              have HB2 : Hid (b2 = b + s2) := hb2
              clear hb hb2 hm hS2 q1 q2
              go_wp2_with (go_at_call 31; refine hcc.mono ?_; rintro e w' ⟨rfl, d', S2, hp, hs⟩)
              have hB := HB.out
              have hB2 := HB2.out
              have hS2 := HS2.out
              go_roundg (n - b)
              case measure => omega
              case rel =>
                obtain ⟨e1, e2, e3, e4, e5⟩ := H.out
                refine ⟨c + 1, b, b2, d', rfl, rfl, hB2, by omega, Nat.le_refl _, ⟨by rw [Nat.succ_mul]; omega, S2, permIn_trans _ _ _ _ _ e3 (permIn_mono _ _ _ _ _ _ (Nat.zero_le _) hbn (by omega) hp), ?_, e5.next hp (by omega)⟩⟩
                rw [e1] at e4 hp hs
                exact Runs.next e4 hp hs (by omega) (by omega)
            · have hbz : ¬ (b : Int) ≤ (n : Int) := by omega
              by_cases hmn : m < n
              · have hmz : (m : Int) < (n : Int) := by omega
                have hcc := SYM.out a m n dk wr (by have := HN.out; omega) H.out.2.1 (by omega) (by omega) (by omega) (by rw [Nat.min_eq_left (by omega)] at q1; exact q1) (by rw [Nat.min_eq_right (by omega)] at q2; exact q2)
                rw [hds] at hcc
                clear hb hm hS2 q1 q2
                go_wp2_with (go_at_call 31; refine hcc.mono ?_; rintro e w' ⟨rfl, d', S2, hp, hs⟩)
                have hB := HB.out
                have hS2 := HS2.out
                have hM := HM.out
                go_roundg (n - s2)
                case measure => omega
                case rel =>
                  obtain ⟨e1, e2, e3, e4, e5⟩ := H.out
                  refine ⟨s2, d', rfl, by omega, by omega, Nat.le_refl _, ⟨S2, permIn_trans _ _ _ _ _ e3 (permIn_mono _ _ _ _ _ _ (Nat.zero_le _) (Nat.le_refl _) (by omega) hp), ?_⟩⟩
                  rw [e1] at e4 hp hs
                  exact Runs.next e4 hp hs (by omega) (by omega)
              · have hmz : ¬ (m : Int) < (n : Int) := by omega
                have HQ : Hid (SortedIn (ltOf cf) a n dk) := by rw [Nat.min_eq_right (by omega)] at q1; exact q1
                clear hb hm hS2 q1 q2
                go_wp2
                have hB := HB.out
                have hS2 := HS2.out
                have hM := HM.out
                go_roundg (n - s2)
                case measure => omega
                case rel =>
                  obtain ⟨e1, e2, e3, e4, e5⟩ := H.out
                  refine ⟨s2, dk, rfl, by omega, by omega, Nat.le_refl _, ⟨e2, e3, ?_⟩⟩
                  have hq := HQ.out
                  rw [e1] at e4 hq
                  exact Runs.end_ e4 hq (by omega) (by omega)
        · have hltz2 : ¬ (s : Int) < (n : Int) := by omega
          go_wp2
          go_end0
          exact ⟨rfl, dk, H.out.1, H.out.2.1, H.out.2.2.all (by omega)⟩

set_option maxHeartbeats 4000000 in
set_option maxRecDepth 1000000 in
/-- the row holds the same things, and rises -/
theorem sort_stable (enc : α → List Value) (cf : α → α → Int) (hO : SWO (ltOf cf)) (g : Nat) (cb : Array Value) (blk off cap : Nat) (d : Array α) (w : World) (eg : ∀ args w, (callFunc g args).run Try.prog w = .ok (.enter g args) w) (hcmp : CmpLays Try.prog g cb enc 3 cf blk off d.size w)
    (R : RowK enc 3 w blk off d) (hsz : d.size < 1000000000) :
    Calls Try.prog 23 #[.slice (some ⟨blk, off, none⟩) d.size cap, .func (.func g) #[] cb] w fun e w' => e = .returned (.tuple #[]) ∧ ∃ d', SWK enc 3 w blk off d' w' ∧ PermIn 0 d.size d d' ∧ SortedIn (ltOf cf) 0 d.size d' := by
  have hc := stable enc cf hO g cb blk off cap d w eg hcmp R hsz
  have HH : Hid (RowK enc 3 w blk off d ∧ CmpLays Try.prog g cb enc 3 cf blk off d.size w ∧ SWO (ltOf cf)) := ⟨R, hcmp, hO⟩
  clear R hcmp hO eg
  go_enter Try.func23, Try.ntmps23
  go_wp2_with (go_at_call 28; refine hc.mono ?_; rintro e w' ⟨rfl, d', S2, hp, hs⟩)
  go_end0
  exact ⟨rfl, d', S2, hp, hs⟩
end Go.Proofs.Ytefniglinligeaa.Sm
