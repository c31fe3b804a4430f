/- SmE, LmM, LmT, LmO, LmR, LmS: merged. -/
import Derived.Test.YtkkfkmoikcmhoaaGreatPaf
import Derived.Test.YtkkfkmoikcmhoaaGreatPar
set_option linter.unusedVariables false
set_option linter.unusedSimpArgs false
namespace Go.Proofs.YtkkfkmoikcmhoaaGreat.Sm
open Go.Shelf Go.RowKit Go.Lib Go.Sort
variable {α : Type} [Inhabited α] {lt : α → α → Bool}
def Runs (lt : α → α → Bool) (s n : Nat) (d : Array α) : Prop := ∀ t, SortedIn lt (t * s) (min ((t + 1) * s) n) d
theorem Runs.zero {s : Nat} {d : Array α} : Runs lt s 0 d := fun t => Ybe (by simp)
theorem Runs.next {s c y : Nat} {d e : Array α} (h : Runs lt s (c * s) d) (hp : PermIn (c * s) y d e) (hs : SortedIn lt (c * s) y e) (hy : y ≤ c * s + s) (hcy : c * s ≤ y) : Runs lt s y e := by
 intro t
 rcases Nat.lt_trichotomy t c with h1 | h1 | h1
 ·have h2 : (t + 1) * s ≤ c * s := Nat.mul_le_mul_right s h1
  have h3 := h t
  rw [Nat.min_eq_left h2] at h3
  rw [Nat.min_eq_left (by omega)]
  exact Y3m hp h3 (Or.inl h2)
 ·subst h1
  exact SortedIn.sub hs (Nat.le_refl _) (Nat.min_le_right _ _)
 ·have h2 : (c + 1) * s ≤ t * s := Nat.mul_le_mul_right s h1
  rw [Nat.succ_mul] at h2
  exact Ybe (by have := Nat.min_le_right ((t + 1) * s) y; omega)
theorem Runs.end_ {s c n : Nat} {d : Array α} (h : Runs lt s (c * s) d) (hs : SortedIn lt (c * s) n d) (hn : n ≤ c * s + s) (hcy : c * s ≤ n) : Runs lt s n d := Runs.next h (permIn_refl _ _ _) hs hn hcy
theorem Runs.all {s n : Nat} {d : Array α} (h : Runs lt s n d) (hn : n ≤ s) : SortedIn lt 0 n d := by
 have := h 0
 rw [Nat.zero_mul, Nat.zero_add, Nat.one_mul, Nat.min_eq_right hn] at this
 exact this
def From (lt : α → α → Bool) (s a n : Nat) (d : Array α) : Prop := ∀ t, a ≤ t * s → SortedIn lt (t * s) (min ((t + 1) * s) n) d
theorem From.next {s a b n : Nat} {d e : Array α} (h : From lt s a n d) (hp : PermIn a b d e) (hb : a ≤ b) : From lt s b n e := fun t ht => Y3m hp (h t (by omega)) (Or.inr ht)
theorem From.two {s c a n : Nat} {d : Array α} (h : From lt s a n d) (ha : a = c * (2 * s)) : SortedIn lt a (min (a + s) n) d ∧ SortedIn lt (a + s) (min (a + s + s) n) d := by
 have e : 2 * c * s = a := by rw [ha, Nat.mul_comm 2 c, Nat.mul_assoc]
 have e1 : (2 * c + 1) * s = a + s := by rw [Nat.succ_mul, e]
 have e2 : (2 * c + 1 + 1) * s = a + s + s := by rw [Nat.succ_mul, e1]
 have h1 := h (2 * c) (by omega)
 have h2 := h (2 * c + 1) (by omega)
 rw [e, e1] at h1
 rw [e1, e2] at h2
 exact ⟨h1, h2⟩
def ren : Ren := ⟨fun n => if n = 20 then 172 else n, fun n => if n = 22 then 218 else if n = 24 then 221 else if n = 25 then 244 else if n = 3 then 3 else if n = 4 then 4 else n, fun n => n⟩
theorem lays20 : SlLaysF0.n20 Tryz.prog ren where
 mixed := by kernel_rfl
 f20 := ⟨ "slices.insertionSortCmpFunc[mezzotint/limit.pack]", by kernel_rfl, by kernel_rfl⟩
 t0 := by kernel_rfl
 a0 _ := by kernel_rfl
 z0 _ := by kernel_rfl
 v0 _ := by kernel_rfl
 t3 := by kernel_rfl
 a3 _ := by kernel_rfl
 z3 _ := by kernel_rfl
 v3 _ := by kernel_rfl
 t4 := by kernel_rfl
 a4 _ := by kernel_rfl
 z4 _ := by kernel_rfl
 v4 _ := by kernel_rfl
 t22 := by kernel_rfl
 a22 _ := by kernel_rfl
 z22 _ := by kernel_rfl
 v22 _ := by kernel_rfl
 t25 := by kernel_rfl
 a25 _ := by kernel_rfl
 z25 _ := by kernel_rfl
 v25 _ := by kernel_rfl
theorem insertion (enc : α → List Value) (cf : α → α → Int) (hO : SWO (ltOf cf)) (g : Nat) (cb : Array Value) (blk off cap a b : Nat) (d0 d : Array α) (w0 w : World) (eg : ∀ args w, (callFunc g args).run Tryz.prog w = .ok (.enter g args) w) (hcmp : CmpLays Tryz.prog g cb enc 3 cf blk off d0.size w0)
  (R : RowK enc 3 w0 blk off d0) (hs : d0.size = d.size) (S : SWK enc 3 w0 blk off d w) (hab : a ≤ b) (hb : b ≤ d.size) (hsz : d.size < 4611686018427387904) :
  Calls Tryz.prog 172 #[.slice (some ⟨blk, off, none⟩) d.size cap, .int .i64 a, .int .i64 b, .func (.func g) #[] cb] w fun e w' => e = .returned (.tuple #[]) ∧ ∃ d', SWK enc 3 w0 blk off d' w' ∧ PermIn a b d d' ∧ SortedIn (ltOf cf) a b d' := by
 have h := AnyQ.insertionSortCmpFunc_w lays20 3 (fun w => lays.aE w) Yvr enc cf g cb blk off cap a b d0 d w0 w eg hcmp R hs S hO hab hb hsz
 have e : ren.f 20 = 172 := rfl
 rw [e] at h
 have hh := insertionSort_holds hO d a b hab hb
 exact h.mono fun _ _ ⟨he, hw⟩ => ⟨he, _, hw, hh.1, hh.2⟩
set_option maxHeartbeats 8000000 in
set_option maxRecDepth 1000000 in
theorem stable (enc : α → List Value) (cf : α → α → Int) (hO : SWO (ltOf cf)) (g : Nat) (cb : Array Value) (blk off cap : Nat) (d : Array α) (w : World) (eg : ∀ args w, (callFunc g args).run Tryz.prog w = .ok (.enter g args) w) (hcmp : CmpLays Tryz.prog g cb enc 3 cf blk off d.size w)
  (R : RowK enc 3 w blk off d) (hsz : d.size < 1000000000) :
  Calls Tryz.prog 170 #[.slice (some ⟨blk, off, none⟩) d.size cap, .int .i64 d.size, .func (.func g) #[] cb] w fun e w' => e = .returned (.tuple #[]) ∧ ∃ d', SWK enc 3 w blk off d' w' ∧ PermIn 0 d.size d d' ∧ SortedIn (ltOf cf) 0 d.size d' := by
 have INS : Hid (∀ a b d' w', d.size = d'.size → SWK enc 3 w blk off d' w' → a ≤ b → b ≤ d'.size → Calls Tryz.prog 172 #[.slice (some ⟨blk, off, none⟩) d'.size cap, .int .i64 a, .int .i64 b, .func (.func g) #[] cb] w' fun e w'' => e = .returned (.tuple #[]) ∧ ∃ d'', SWK enc 3 w blk off d'' w'' ∧ PermIn a b d' d'' ∧ SortedIn (ltOf cf) a b d'') :=
  fun a b d' w' hs S hab hb => insertion enc cf hO g cb blk off cap a b d d' w w' eg hcmp R hs S hab hb (by omega)
 have SYM : Hid (∀ a m b d' w', d.size = d'.size → SWK enc 3 w blk off d' w' → a < m → m < b → b ≤ d'.size → SortedIn (ltOf cf) a m d' → SortedIn (ltOf cf) m b d' → Calls Tryz.prog 173 #[.slice (some ⟨blk, off, none⟩) d'.size cap, .int .i64 a, .int .i64 m, .int .i64 b, .func (.func g) #[] cb] w' fun e w'' => e = .returned (.tuple #[]) ∧ ∃ d'', SWK enc 3 w blk off d'' w'' ∧ PermIn a b d' d'' ∧ SortedIn (ltOf cf) a b d'') :=
  fun a m b d' w' hs S h1 h2 h3 s1 s2 => Yrw lays 3 Yvr enc cf hO g cb blk off cap d w eg hcmp R (by omega) (b - a + 1) a m b d' w' (by omega) hs S h1 h2 h3 s1 s2
 have S0 : Hid (SWK enc 3 w blk off d w) := SWK.start R.hH
 obtain ⟨n, hn⟩ : ∃ n, n = d.size := ⟨_, rfl⟩
 rw [← hn] at hsz ⊢
 have HN : Hid (n = d.size) := hn
 have HO : Hid (SWO (ltOf cf)) := hO
 clear hn hcmp R hO eg
 go_enter Tryz.func170, Tryz.ntmps170
 go_wp2
 go_loopg [7, 8] n (fun kx s7 s8 wr => ∃ (c a b : Nat) (dk : Array α), s7 = .int .i64 a ∧ s8 = .int .i64 b ∧ b = a + 20 ∧ a ≤ n ∧ n - a ≤ kx ∧ Hid (a = c * 20 ∧ SWK enc 3 w blk off dk wr ∧ PermIn 0 n d dk ∧ Runs (ltOf cf) 20 a dk))
 case atStart => exact ⟨0, 0, 20, d, rfl, rfl, rfl, by omega, by omega, ⟨rfl, S0.out, permIn_refl _ _ _, Runs.zero⟩⟩
 case round =>
  clear S0
  obtain ⟨c, a, b, dk, rfl, rfl, hb, han, hkx, H⟩ := hrel
  have HB : Hid (b = a + 20) := hb
  have hds : dk.size = n := by rw [HN.out]; exact H.out.2.2.1.1
  by_cases hlt : b ≤ n
  ·have hltz : (b : Int) ≤ (n : Int) := by omega
   have hcc := INS.out a b dk wr (by have := HN.out; omega) H.out.2.1 (by omega) (by omega)
   rw [hds] at hcc
   have wb : IntKind.i64.wrap ((b : Int) + 20) = ((b + 20 : Nat) : Int) := by rw [IntKind.wrap_i64]; omega
   obtain ⟨b2, hb2⟩ : ∃ b2, b2 = b + 20 := ⟨_, rfl⟩
   rw [← hb2] at wb
   have HB2 : Hid (b2 = b + 20) := hb2
   clear hb hb2
   go_wp2_with (go_at_call 172; refine hcc.mono ?_; rintro e w' ⟨rfl, d', S2, hp, hs⟩)
   have hB := HB.out
   have hB2 := HB2.out
   go_roundg (n - b)
   case measure => omega
   case rel =>
    obtain ⟨e1, e2, e3, e4⟩ := H.out
    refine ⟨c + 1, b, b2, d', rfl, rfl, hB2, by omega, Nat.le_refl _, ⟨by omega, S2, permIn_trans _ _ _ _ _ e3 (permIn_mono _ _ _ _ _ _ (Nat.zero_le _) hlt (by omega) hp), ?_⟩⟩
    rw [e1] at e4 hp hs
    exact Runs.next e4 hp hs (by omega) (by omega)
  ·have hltz : ¬ (b : Int) ≤ (n : Int) := by omega
   have hcc := INS.out a n dk wr (by have := HN.out; omega) H.out.2.1 (by omega) (by omega)
   rw [hds] at hcc
   clear hb
   have hpl : a = c * 20 ∧ PermIn 0 n d dk ∧ Runs (ltOf cf) 20 a dk := ⟨H.out.1, H.out.2.2.1, H.out.2.2.2⟩
   have HPL : Hid (a = c * 20 ∧ PermIn 0 n d dk ∧ Runs (ltOf cf) 20 a dk) := hpl
   clear hpl H
   go_wp2_with (go_at_call 172; refine hcc.mono ?_; rintro e w' ⟨rfl, d', S2, hp, hs⟩)
   have S3 : Hid (SWK enc 3 w blk off d' w' ∧ PermIn 0 n d d' ∧ Runs (ltOf cf) 20 n d') := by
    obtain ⟨e1, e2, e3⟩ := HPL.out
    have hB := HB.out
    refine ⟨S2, permIn_trans _ _ _ _ _ e2 (permIn_mono _ _ _ _ _ _ (Nat.zero_le _) (Nat.le_refl _) (by omega) hp), ?_⟩
    rw [e1] at e3 hp hs
    exact Runs.next e3 hp hs (by omega) (by omega)
   clear S2 hp hs HPL HB
   go_loopg [6] n (fun kx s6 wr => ∃ (s : Nat) (dk : Array α), s6 = .int .i64 s ∧ 0 < s ∧ s ≤ n + n + 40 ∧ n - s ≤ kx ∧ Hid (SWK enc 3 w blk off dk wr ∧ PermIn 0 n d dk ∧ Runs (ltOf cf) s n dk))
   case atStart => exact ⟨20, d', rfl, by omega, by omega, by omega, S3⟩
   case round =>
    clear S3
    obtain ⟨s, dk, rfl, hs0, hs1, hkx, H⟩ := hrel
    by_cases hlt2 : s < n
    ·have hltz2 : (s : Int) < (n : Int) := by omega
     obtain ⟨s2, hs2⟩ : ∃ s2, s2 = 2 * s := ⟨_, rfl⟩
     have ws : IntKind.i64.wrap (2 * (s : Int)) = (s2 : Int) := by rw [IntKind.wrap_i64]; omega
     have ws' : IntKind.i64.wrap ((s : Int) * 2) = (s2 : Int) := by rw [IntKind.wrap_i64]; omega
     have HS2 : Hid (s2 = 2 * s) := hs2
     have S3 : Hid (SWK enc 3 w blk off dk wr ∧ PermIn 0 n d dk ∧ Runs (ltOf cf) s2 0 dk ∧ From (ltOf cf) s 0 n dk) := ⟨H.out.1, H.out.2.1, Runs.zero, fun t _ => H.out.2.2 t⟩
     clear hs2 H
     go_wp2
     go_loopg [7, 8] n (fun kx s7 s8 wr => ∃ (c a b : Nat) (dk : Array α), s7 = .int .i64 a ∧ s8 = .int .i64 b ∧ b = a + s2 ∧ a ≤ n ∧ n - a ≤ kx ∧ Hid (a = c * s2 ∧ SWK enc 3 w blk off dk wr ∧ PermIn 0 n d dk ∧ Runs (ltOf cf) s2 a dk ∧ From (ltOf cf) s a n dk))
     case atStart => exact ⟨0, 0, s2, dk, rfl, rfl, by omega, by omega, by omega, ⟨by rw [Nat.zero_mul], S3.out⟩⟩
     case round =>
      clear S3
      obtain ⟨c, a, b, dk, rfl, rfl, hb, han, hkx, H⟩ := hrel
      have HB : Hid (b = a + s2) := hb
      have hds : dk.size = n := by rw [HN.out]; exact H.out.2.2.1.1
      have hS2 := HS2.out
      obtain ⟨q1, q2⟩ := From.two H.out.2.2.2.2 (c := c) (by have := H.out.1; rw [hS2] at this; exact this)
      obtain ⟨m, hm⟩ : ∃ m, m = a + s := ⟨_, rfl⟩
      have wm : IntKind.i64.wrap ((a : Int) + (s : Int)) = (m : Int) := by rw [IntKind.wrap_i64]; omega
      have HM : Hid (m = a + s) := hm
      rw [← hm] at q1 q2
      by_cases hbn : b ≤ n
      ·have hbz : (b : Int) ≤ (n : Int) := by omega
       have hcc := SYM.out a m b dk wr (by have := HN.out; omega) H.out.2.1 (by omega) (by omega) (by omega) (by rw [Nat.min_eq_left (by omega)] at q1; exact q1) (by rw [Nat.min_eq_left (by omega)] at q2; rw [show b = m + s by omega]; exact q2)
       rw [hds] at hcc
       obtain ⟨b2, hb2⟩ : ∃ b2, b2 = b + s2 := ⟨_, rfl⟩
       have wb : IntKind.i64.wrap ((b : Int) + (s2 : Int)) = (b2 : Int) := by rw [IntKind.wrap_i64]; omega
       have HB2 : Hid (b2 = b + s2) := hb2
       clear hb hb2 hm hS2 q1 q2
       go_wp2_with (go_at_call 173; refine hcc.mono ?_; rintro e w' ⟨rfl, d', S2, hp, hs⟩)
       have hB := HB.out
       have hB2 := HB2.out
       have hS2 := HS2.out
       go_roundg (n - b)
       case measure => omega
       case rel =>
        obtain ⟨e1, e2, e3, e4, e5⟩ := H.out
        refine ⟨c + 1, b, b2, d', rfl, rfl, hB2, by omega, Nat.le_refl _, ⟨by rw [Nat.succ_mul]; omega, S2, permIn_trans _ _ _ _ _ e3 (permIn_mono _ _ _ _ _ _ (Nat.zero_le _) hbn (by omega) hp), ?_, e5.next hp (by omega)⟩⟩
        rw [e1] at e4 hp hs
        exact Runs.next e4 hp hs (by omega) (by omega)
      ·have hbz : ¬ (b : Int) ≤ (n : Int) := by omega
       by_cases hmn : m < n
       ·have hmz : (m : Int) < (n : Int) := by omega
        have hcc := SYM.out a m n dk wr (by have := HN.out; omega) H.out.2.1 (by omega) (by omega) (by omega) (by rw [Nat.min_eq_left (by omega)] at q1; exact q1) (by rw [Nat.min_eq_right (by omega)] at q2; exact q2)
        rw [hds] at hcc
        clear hb hm hS2 q1 q2
        go_wp2_with (go_at_call 173; refine hcc.mono ?_; rintro e w' ⟨rfl, d', S2, hp, hs⟩)
        have hB := HB.out
        have hS2 := HS2.out
        have hM := HM.out
        go_roundg (n - s2)
        case measure => omega
        case rel =>
         obtain ⟨e1, e2, e3, e4, e5⟩ := H.out
         refine ⟨s2, d', rfl, by omega, by omega, Nat.le_refl _, ⟨S2, permIn_trans _ _ _ _ _ e3 (permIn_mono _ _ _ _ _ _ (Nat.zero_le _) (Nat.le_refl _) (by omega) hp), ?_⟩⟩
         rw [e1] at e4 hp hs
         exact Runs.next e4 hp hs (by omega) (by omega)
       ·have hmz : ¬ (m : Int) < (n : Int) := by omega
        have HQ : Hid (SortedIn (ltOf cf) a n dk) := by rw [Nat.min_eq_right (by omega)] at q1; exact q1
        clear hb hm hS2 q1 q2
        go_wp2
        have hB := HB.out
        have hS2 := HS2.out
        have hM := HM.out
        go_roundg (n - s2)
        case measure => omega
        case rel =>
         obtain ⟨e1, e2, e3, e4, e5⟩ := H.out
         refine ⟨s2, dk, rfl, by omega, by omega, Nat.le_refl _, ⟨e2, e3, ?_⟩⟩
         have hq := HQ.out
         rw [e1] at e4 hq
         exact Runs.end_ e4 hq (by omega) (by omega)
    ·have hltz2 : ¬ (s : Int) < (n : Int) := by omega
     go_wp2
     go_end0
     exact ⟨rfl, dk, H.out.1, H.out.2.1, H.out.2.2.all (by omega)⟩
set_option maxHeartbeats 4000000 in
set_option maxRecDepth 1000000 in
theorem Yiq (enc : α → List Value) (cf : α → α → Int) (hO : SWO (ltOf cf)) (g : Nat) (cb : Array Value) (blk off cap : Nat) (d : Array α) (w : World) (eg : ∀ args w, (callFunc g args).run Tryz.prog w = .ok (.enter g args) w) (hcmp : CmpLays Tryz.prog g cb enc 3 cf blk off d.size w)
  (R : RowK enc 3 w blk off d) (hsz : d.size < 1000000000) :
  Calls Tryz.prog 161 #[.slice (some ⟨blk, off, none⟩) d.size cap, .func (.func g) #[] cb] w fun e w' => e = .returned (.tuple #[]) ∧ ∃ d', SWK enc 3 w blk off d' w' ∧ PermIn 0 d.size d d' ∧ SortedIn (ltOf cf) 0 d.size d' := by
 have hc := stable enc cf hO g cb blk off cap d w eg hcmp R hsz
 have HH : Hid (RowK enc 3 w blk off d ∧ CmpLays Tryz.prog g cb enc 3 cf blk off d.size w ∧ SWO (ltOf cf)) := ⟨R, hcmp, hO⟩
 clear R hcmp hO eg
 go_enter Tryz.func161, Tryz.ntmps161
 go_wp2_with (go_at_call 170; refine hc.mono ?_; rintro e w' ⟨rfl, d', S2, hp, hs⟩)
 go_end0
 exact ⟨rfl, d', S2, hp, hs⟩
end Go.Proofs.YtkkfkmoikcmhoaaGreat.Sm
namespace Go.Proofs.YtkkfkmoikcmhoaaGreat.Lm
open Bit Hf
def ins (x : Nat) : List Nat → List Nat
 | [] => [x]
 | b :: B => if x ≤ b then x :: b :: B else b :: ins x B
def isort : List Nat → List Nat
 | [] => []
 | x :: f => ins x (isort f)
def Rising : List Nat → Prop
 | [] => True
 | [_] => True
 | a :: b :: B => a ≤ b ∧ Rising (b :: B)
theorem Yly (x : Nat) (B : List Nat) : (ins x B).length = B.length + 1 := by
 induction B with
 | nil => rfl
 | cons b B ih => unfold ins; split <;> simp [ih]
theorem Y47 (f : List Nat) : (isort f).length = f.length := by
 induction f with
 | nil => rfl
 | cons x f ih => simp [isort, Yly, ih]
theorem Rising.tail {b : Nat} {B : List Nat} (h : Rising (b :: B)) : Rising B := by
 cases B with
 | nil => trivial
 | cons c B => exact h.2
theorem Rising.head {b : Nat} {B : List Nat} (h : Rising (b :: B)) : ∀ x ∈ B, b ≤ x := by
 induction B generalizing b with
 | nil => intro x hx; cases hx
 | cons c B ih =>
  intro x hx
  rcases List.mem_cons.1 hx with rfl | hx
  ·exact h.1
  ·exact Nat.le_trans h.1 (ih h.2 x hx)
theorem Rising.cons {b : Nat} {B : List Nat} (h : Rising B) (hb : ∀ x ∈ B, b ≤ x) : Rising (b :: B) := by
 cases B with
 | nil => trivial
 | cons c B => exact ⟨hb c (List.mem_cons_self ..), h⟩
theorem Yy2 {x y : Nat} {B : List Nat} (h : y ∈ ins x B) : y = x ∨ y ∈ B := by
 induction B with
 | nil => simp [ins] at h; exact .inl h
 | cons b B ih =>
  unfold ins at h
  split at h
  ·simpa using h
  ·rcases List.mem_cons.1 h with rfl | h
   ·exact .inr (List.mem_cons_self ..)
   ·rcases ih h with h | h
    ·exact .inl h
    ·exact .inr (List.mem_cons_of_mem _ h)
theorem Ylz {x : Nat} {B : List Nat} (h : Rising B) : Rising (ins x B) := by
 induction B with
 | nil => trivial
 | cons b B ih =>
  unfold ins
  split
  ·rename_i hx
   exact ⟨hx, h⟩
  ·refine Rising.cons (ih h.tail) (fun y hy => ?_)
   rcases Yy2 hy with rfl | hy
   ·omega
   ·exact h.head y hy
theorem Yfe (f : List Nat) : Rising (isort f) := by
 induction f with
 | nil => trivial
 | cons x f ih => exact Ylz ih
def Y84 (A : List Nat) (r : Nat) : Nat := (A.take r).sum
theorem Y85 (A : List Nat) : Y84 A 0 = 0 := by simp [Y84]
theorem Y1g (b : Nat) (B : List Nat) (r : Nat) : Y84 (b :: B) (r + 1) = b + Y84 B r := by simp [Y84]
theorem Yrs {x : Nat} {B : List Nat} (h : ∀ y ∈ B, x ≤ y) (r : Nat) (hr : r < B.length) : x + Y84 B r ≤ Y84 B (r + 1) := by
 induction B generalizing r with
 | nil => simp at hr
 | cons b B ih =>
  cases r with
  | zero => rw [Y85, Y1g, Y85]; have := h b (List.mem_cons_self ..); omega
  | succ r =>
   rw [Y1g, Y1g]
   have := ih (fun y hy => h y (List.mem_cons_of_mem _ hy)) r (by simpa using hr)
   omega
theorem Yy3 (x : Nat) (B : List Nat) (r : Nat) : Y84 (ins x B) (r + 1) ≤ x + Y84 B r := by
 induction B generalizing r with
 | nil => simp [ins, Y84]
 | cons b B ih =>
  unfold ins
  split
  ·rw [Y1g]; exact Nat.le_refl _
  ·rename_i hx
   rw [Y1g]
   cases r with
   | zero => rw [Y85, Y85]; omega
   | succ r => rw [Y1g]; have := ih r; omega
theorem Yy4 {x : Nat} {B : List Nat} (h : Rising B) (r : Nat) (hr : r ≤ B.length) : Y84 (ins x B) r ≤ Y84 B r := by
 induction B generalizing r with
 | nil => have : r = 0 := by simpa using hr
          subst this; simp [Y84]
 | cons b B ih =>
  cases r with
  | zero => simp [Y84]
  | succ r =>
   unfold ins
   split
   ·rename_i hx
    rw [Y1g]
    exact Yrs (fun y hy => by
     rcases List.mem_cons.1 hy with rfl | hy
     ·exact hx
     ·exact Nat.le_trans hx (h.head y hy)) r (by simp at hr ⊢; omega)
   ·rw [Y1g, Y1g]
    have := ih h.tail r (by simpa using hr)
    omega
theorem Ygh {f S : List Nat} (h : S.Sublist f) : Y84 (isort f) S.length ≤ S.sum := by
 induction h with
 | slnil => simp [Y84]
 | cons x hs ih =>
  refine Nat.le_trans (Yy4 (Yfe _) _ ?_) ih
  rw [Y47]
  exact hs.length_le
 | cons_cons x hs ih =>
  rw [List.length_cons, List.sum_cons]
  exact Nat.le_trans (Yy3 x _ _) (by omega)
def cost : List Nat → List Nat → Nat
 | x :: f, y :: l => x * y + cost f l
 | _, _ => 0
def kraft (l : List Nat) : Nat := (l.map share).sum
def sel : List Nat → List Nat → Nat → List Nat
 | x :: f, y :: l, k => if k < y then x :: sel f l k else sel f l k
 | _, _, _ => []
def Yeg (l : List Nat) (k : Nat) : Nat := l.countP (k < ·)
theorem Yzb (f l : List Nat) (k : Nat) : (sel f l k).Sublist f := by
 induction f generalizing l with
 | nil => simp [sel]
 | cons x f ih =>
  cases l with
  | nil => simp [sel]
  | cons y l =>
   unfold sel
   split
   ·exact (ih l).cons_cons x
   ·exact (ih l).cons x
theorem Ymv (f l : List Nat) (k : Nat) (h : l.length = f.length) : (sel f l k).length = Yeg l k := by
 induction f generalizing l with
 | nil => have : l = [] := List.eq_nil_of_length_eq_zero h
          subst this; rfl
 | cons x f ih =>
  cases l with
  | nil => simp at h
  | cons y l =>
   have := ih l (by simpa using h)
   unfold Yeg at this ⊢
   rw [List.countP_cons, ← this]
   simp only [sel]
   split
   ·rename_i hk; simp [hk]
   ·rename_i hk; simp [hk]
def Y32 (g : Nat → Nat) : Nat → Nat
 | 0 => 0
 | k + 1 => Y32 g k + g k
theorem Y9o (g h : Nat → Nat) (k : Nat) : Y32 (fun i => g i + h i) k = Y32 g k + Y32 h k := by
 induction k with
 | zero => rfl
 | succ k ih => simp only [Y32, ih]; omega
theorem Yru {g h : Nat → Nat} (k : Nat) (hl : ∀ i, i < k → g i ≤ h i) : Y32 g k ≤ Y32 h k := by
 induction k with
 | zero => exact Nat.le_refl _
 | succ k ih =>
  have := ih (fun i hi => hl i (by omega))
  have := hl k (by omega)
  simp only [Y32]; omega
theorem Y1i {g h : Nat → Nat} (k : Nat) (hl : ∀ i, i < k → g i = h i) : Y32 g k = Y32 h k := by
 induction k with
 | zero => rfl
 | succ k ih => simp only [Y32, ih (fun i hi => hl i (by omega)), hl k (by omega)]
theorem Yrt (x y k : Nat) : Y32 (fun i => if i < y then x else 0) k = x * min y k := by
 induction k with
 | zero => simp [Y32]
 | succ k ih =>
  simp only [Y32, ih]
  by_cases h : k < y
  ·rw [if_pos h, Nat.min_eq_right (by omega), Nat.min_eq_right (by omega), Nat.mul_succ]
  ·rw [if_neg h, Nat.min_eq_left (by omega), Nat.min_eq_left (by omega), Nat.add_zero]
theorem Yhf (f l : List Nat) (L : Nat) (h : l.length = f.length) (hL : ∀ x ∈ l, x ≤ L) : cost f l = Y32 (fun k => (sel f l k).sum) L := by
 induction f generalizing l with
 | nil =>
  have : l = [] := List.eq_nil_of_length_eq_zero h
  subst this
  rw [Y1i (h := fun k => if k < 0 then 0 else 0) L (by intro i _; simp [sel]), Yrt]
  simp [cost]
 | cons x f ih =>
  cases l with
  | nil => simp at h
  | cons y l =>
   have hy := hL y (List.mem_cons_self ..)
   have h1 := ih l (by simpa using h) (fun z hz => hL z (List.mem_cons_of_mem _ hz))
   have h2 := Yrt x y L
   rw [Nat.min_eq_left hy] at h2
   rw [Y1i (h := fun k => (if k < y then x else 0) + (sel f l k).sum) L (by
    intro k _
    simp only [sel]
    split <;> simp), Y9o, h2, ← h1]
   rfl
def base (f l : List Nat) (L : Nat) : Nat := Y32 (fun k => Y84 (isort f) (Yeg l k)) L
theorem Yxe (f l : List Nat) (L : Nat) (h : l.length = f.length) (hL : ∀ x ∈ l, x ≤ L) : base f l L ≤ cost f l := by
 rw [Yhf f l L h hL]
 refine Yru L (fun k _ => ?_)
 rw [← Ymv f l k h]
 exact Ygh (Yzb f l k)
structure Ok (f : List Nat) (L : Nat) (l : List Nat) : Prop where
 len : l.length = f.length
 lo : ∀ x ∈ l, 1 ≤ x
 hi : ∀ x ∈ l, x ≤ L
 kr : kraft l ≤ 1073741824
structure Least (f : List Nat) (L : Nat) (l : List Nat) : Prop where
 ok : Ok f L l
 min : ∀ l', Ok f L l' → cost f l ≤ cost f l'
theorem Y4r (y : Nat) (l : List Nat) : kraft (y :: l) = share y + kraft l := by simp [kraft]
theorem Yps (l : List Nat) (i x : Nat) (h : i < l.length) : kraft (l.set i x) + share l[i] = kraft l + share x := by
 induction l generalizing i with
 | nil => simp at h
 | cons y l ih =>
  cases i with
  | zero => simp [kraft]; omega
  | succ i =>
   have := ih i (by simpa using h)
   simp only [List.set_cons_succ, List.getElem_cons_succ, Y4r]
   omega
theorem Yts (f l : List Nat) (i x : Nat) (h : i < l.length) (hf : i < f.length) : cost f (l.set i x) + f[i] * l[i] = cost f l + f[i] * x := by
 induction l generalizing i f with
 | nil => simp at h
 | cons y l ih =>
  cases f with
  | nil => simp at hf
  | cons z f =>
   cases i with
   | zero => simp only [List.set_cons_zero, List.getElem_cons_zero, cost]; omega
   | succ i =>
    have := ih f i (by simpa using h) (by simpa using hf)
    simp only [List.set_cons_succ, List.getElem_cons_succ, cost]
    omega
theorem Ypr (l : List Nat) (m : Nat) (hm : m ≤ 30) (h : ∀ x ∈ l, x ≤ m) : share m ∣ kraft l := by
 induction l with
 | nil => exact ⟨0, by simp [kraft]⟩
 | cons y l ih =>
  rw [Y4r]
  exact Nat.dvd_add (Y82 y m (h y (List.mem_cons_self ..)) hm) (ih (fun x hx => h x (List.mem_cons_of_mem _ hx)))
theorem Ys9 (m : Nat) (hm : m ≤ 30) : share m ∣ 1073741824 := ⟨2 ^ m, by rw [Nat.mul_comm, Y3s m hm]⟩
theorem Ypl : ∀ (l : List Nat), l ≠ [] → ∃ i, ∃ h : i < l.length, ∀ x ∈ l, x ≤ l[i]
 | [], h => absurd rfl h
 | [y], _ => ⟨0, by simp, by simp⟩
 | y :: z :: l, _ => by
  obtain ⟨i, h, hm⟩ := Ypl (z :: l) (by simp)
  by_cases hy : (z :: l)[i] ≤ y
  ·exact ⟨0, by simp, fun x hx => by
    rcases List.mem_cons.1 hx with rfl | hx
    ·exact Nat.le_refl _
    ·exact Nat.le_trans (hm x hx) hy⟩
  ·exact ⟨i + 1, by simpa using h, fun x hx => by
    rw [List.getElem_cons_succ]
    rcases List.mem_cons.1 hx with rfl | hx
    ·omega
    ·exact hm x hx⟩
theorem Ym2 (l : List Nat) (h : ∀ x ∈ l, x = 1) : kraft l = l.length * 536870912 := by
 induction l with
 | nil => rfl
 | cons y l ih =>
  have e := h y (List.mem_cons_self ..)
  rw [Y4r, ih (fun x hx => h x (List.mem_cons_of_mem _ hx)), e, List.length_cons, Nat.succ_mul]
  have : share 1 = 536870912 := rfl
  omega
theorem shorten {f : List Nat} {L : Nat} {l : List Nat} (h : Ok f L l) (hL : L ≤ 30) (h2 : 2 ≤ f.length) (hf : ∀ x ∈ f, 1 ≤ x) (hk : kraft l < 1073741824) : ∃ l', Ok f L l' ∧ cost f l' < cost f l := by
 have hne : l ≠ [] := by
  intro e
  have := h.len
  rw [e] at this
  simp at this
  omega
 obtain ⟨i, hi, hm⟩ := Ypl l hne
 have hi1 := h.lo l[i] (List.getElem_mem hi)
 have hi2 := h.hi l[i] (List.getElem_mem hi)
 have hif : i < f.length := by rw [← h.len]; exact hi
 have hfi := hf f[i] (List.getElem_mem hif)
 have hdv := Ypr l l[i] (by omega) hm
 have htp := Ys9 l[i] (by omega)
 have hroom : kraft l + share l[i] ≤ 1073741824 := by
  obtain ⟨a, ha⟩ := hdv
  obtain ⟨b, hb⟩ := htp
  rw [ha, hb] at hk ⊢
  have : a < b := Nat.lt_of_mul_lt_mul_left hk
  rw [← Nat.mul_succ]
  exact Nat.mul_le_mul_left _ this
 by_cases h1 : l[i] = 1
 ·exfalso
  have := Ym2 l (fun x hx => by have := hm x hx; have := h.lo x hx; omega)
  rw [this, h.len] at hk
  omega
 ·have hs := Y6c (l[i] - 1) l[i] (by omega) (by omega)
  rw [show l[i] - (l[i] - 1) = 1 by omega] at hs
  have hks := Yps l i (l[i] - 1) hi
  have hcs := Yts f l i (l[i] - 1) hi hif
  refine ⟨l.set i (l[i] - 1), ⟨by rw [List.length_set]; exact h.len, fun x hx => ?_, fun x hx => ?_, by omega⟩, ?_⟩
  ·rcases List.mem_or_eq_of_mem_set hx with hx | rfl
   ·exact h.lo x hx
   ·omega
  ·rcases List.mem_or_eq_of_mem_set hx with hx | rfl
   ·exact h.hi x hx
   ·omega
  ·have : f[i] * (l[i] - 1) + f[i] = f[i] * l[i] := by rw [← Nat.mul_succ]; congr 1; omega
   omega
theorem Least.full {f : List Nat} {L : Nat} {l : List Nat} (h : Least f L l) (hL : L ≤ 30) (h2 : 2 ≤ f.length) (hf : ∀ x ∈ f, 1 ≤ x) : kraft l = 1073741824 := by
 rcases Nat.lt_or_ge (kraft l) 1073741824 with hk | hk
 ·obtain ⟨l', h1, h3⟩ := shorten h.ok hL h2 hf hk
  have := h.min l' h1
  omega
 ·have := h.ok.kr; omega
theorem Ys7 {f : List Nat} {L : Nat} (hL : L ≤ 30) (h2 : 2 ≤ f.length) (hf : ∀ x ∈ f, 1 ≤ x) : ∀ (n : Nat) (l : List Nat), cost f l ≤ n → Ok f L l → ∃ l', Ok f L l' ∧ cost f l' ≤ cost f l ∧ kraft l' = 1073741824 := by
 intro n
 induction n with
 | zero =>
  intro l hn h
  rcases Nat.lt_or_ge (kraft l) 1073741824 with hk | hk
  ·obtain ⟨l', _, h3⟩ := shorten h hL h2 hf hk
   omega
  ·exact ⟨l, h, Nat.le_refl _, by have := h.kr; omega⟩
 | succ n ih =>
  intro l hn h
  rcases Nat.lt_or_ge (kraft l) 1073741824 with hk | hk
  ·obtain ⟨l', h1, h3⟩ := shorten h hL h2 hf hk
   obtain ⟨l2, g1, g2, g3⟩ := ih l' (by omega) h1
   exact ⟨l2, g1, by omega, g3⟩
  ·exact ⟨l, h, Nat.le_refl _, by have := h.kr; omega⟩
end Go.Proofs.YtkkfkmoikcmhoaaGreat.Lm
namespace Go.Proofs.YtkkfkmoikcmhoaaGreat.Lm
open Bit Hf
def taken : List Nat → Nat → Nat
 | [], _ => 0
 | y :: l, k => (if k < y then share y else 0) + taken l k
def before : List Nat → Nat → Nat
 | [], _ => 0
 | y :: l, k => (if k < y then 0 else share y) + before l k
theorem both (l : List Nat) (k : Nat) : before l k + taken l k = kraft l := by
 induction l with
 | nil => rfl
 | cons y l ih =>
  rw [Y4r]
  simp only [before, taken]
  split <;> omega
def Yws (l : List Nat) (k : Nat) : Nat := l.countP (· == k)
theorem Y5v (y : Nat) (l : List Nat) (k : Nat) : Yeg (y :: l) k = (if k < y then 1 else 0) + Yeg l k := by
 unfold Yeg
 rw [List.countP_cons]
 by_cases h : k < y
 ·simp [h]; omega
 ·simp [h]
theorem Yes (y : Nat) (l : List Nat) (k : Nat) : Yws (y :: l) k = (if y = k then 1 else 0) + Yws l k := by
 unfold Yws
 rw [List.countP_cons]
 by_cases h : y = k
 ·simp [h]; omega
 ·simp [h]
theorem Yet (l : List Nat) (k : Nat) : Yeg l k = Yws l (k + 1) + Yeg l (k + 1) := by
 induction l with
 | nil => rfl
 | cons y l ih =>
  rw [Y5v, Y5v, Yes]
  by_cases h : y = k + 1
  ·subst h; simp; omega
  ·by_cases h2 : k < y
   ·rw [if_pos h2, if_neg h, if_pos (by omega)]; omega
   ·rw [if_neg h2, if_neg h, if_neg (by omega)]; omega
theorem Yn5 (l : List Nat) (k : Nat) : taken l k = Yws l (k + 1) * share (k + 1) + taken l (k + 1) := by
 induction l with
 | nil => simp [taken, Yws]
 | cons y l ih =>
  rw [Yes]
  simp only [taken]
  by_cases h : y = k + 1
  ·subst h
   rw [if_pos (by omega), if_pos rfl, if_neg (by omega), Nat.add_mul]
   omega
  ·by_cases h2 : k < y
   ·rw [if_pos h2, if_neg h, if_pos (by omega), Nat.zero_add]; omega
   ·rw [if_neg h2, if_neg h, if_neg (by omega)]; simp only [Nat.zero_add]; omega
theorem Yl1 (l : List Nat) (k : Nat) (hk : k ≤ 30) : share k ∣ before l k := by
 induction l with
 | nil => exact ⟨0, by simp [before]⟩
 | cons y l ih =>
  simp only [before]
  refine Nat.dvd_add ?_ ih
  split
  ·exact ⟨0, by simp⟩
  ·exact Y82 y k (by omega) hk
theorem Ygp {l : List Nat} (h : kraft l = 1073741824) (k : Nat) (hk : k ≤ 30) : share k ∣ taken l k := by
 have h1 := both l k
 rw [h] at h1
 have h2 := Yl1 l k hk
 have h3 := Ys9 k hk
 rw [← h1] at h3
 exact (Nat.dvd_add_right h2).1 h3
theorem Ycr (l : List Nat) (h : ∀ x ∈ l, 1 ≤ x) : taken l 0 = kraft l := by
 induction l with
 | nil => rfl
 | cons y l ih =>
  have := h y (List.mem_cons_self ..)
  rw [Y4r, ← ih (fun x hx => h x (List.mem_cons_of_mem _ hx))]
  simp only [taken]
  rw [if_pos (by omega)]
theorem Yeu (l : List Nat) (h : ∀ x ∈ l, 1 ≤ x) : Yeg l 0 = l.length := by
 induction l with
 | nil => rfl
 | cons y l ih =>
  have := h y (List.mem_cons_self ..)
  rw [Y5v, ih (fun x hx => h x (List.mem_cons_of_mem _ hx)), if_pos (by omega), List.length_cons]
  omega
theorem Ycq (l : List Nat) (m : Nat) (h : ∀ x ∈ l, x ≤ m) : taken l m = 0 := by
 induction l with
 | nil => rfl
 | cons y l ih =>
  have := h y (List.mem_cons_self ..)
  simp only [taken]
  rw [ih (fun x hx => h x (List.mem_cons_of_mem _ hx)), if_neg (by omega)]
theorem Yoh (l : List Nat) (m : Nat) (h : ∀ x ∈ l, x ≤ m) : Yeg l m = 0 := by
 induction l with
 | nil => rfl
 | cons y l ih =>
  have := h y (List.mem_cons_self ..)
  rw [Y5v, ih (fun x hx => h x (List.mem_cons_of_mem _ hx)), if_neg (by omega)]
theorem Ys4 {l : List Nat} {m k : Nat} (hm : m ∈ l) (hk : k < m) : 0 < taken l k := by
 induction l with
 | nil => cases hm
 | cons y l ih =>
  simp only [taken]
  rcases List.mem_cons.1 hm with rfl | hm
  ·rw [if_pos hk]; have := Y10 m; omega
  ·have := ih hm; omega
theorem Yrl (k : Nat) (h : k < 30) : share k = 2 * share (k + 1) := by
 have := Y6c k (k + 1) (by omega) (by omega)
 rw [show k + 1 - k = 1 by omega] at this
 omega
theorem Yft {l : List Nat} {k o : Nat} (hk : k < 30) (ho : taken l k = o * share k) (hd : share (k + 1) ∣ taken l (k + 1)) : ∃ p, taken l (k + 1) = p * share (k + 1) ∧ 2 * o = Yws l (k + 1) + p := by
 obtain ⟨p, hp⟩ := hd
 have h1 := Yn5 l k
 have h2 := Yrl k hk
 have h3 := Y10 (k + 1)
 refine ⟨p, by rw [hp, Nat.mul_comm], ?_⟩
 have e : 2 * o * share (k + 1) = (Yws l (k + 1) + p) * share (k + 1) := by
  rw [Nat.add_mul, Nat.mul_comm p, ← hp, ← h1, ho, h2, Nat.mul_comm 2 o, Nat.mul_assoc]
 exact Nat.eq_of_mul_eq_mul_right h3 e
theorem deep {l : List Nat} {m : Nat} (hk1 : kraft l = 1073741824) (hm : m ∈ l) (hmax : ∀ x ∈ l, x ≤ m) (hm30 : m ≤ 30) :
  ∀ (d k o : Nat), 1 ≤ d → k + d = m → 1 ≤ o → taken l k = o * share k → o + d ≤ Yeg l k := by
 intro d
 induction d with
 | zero => intro k o h; omega
 | succ d ih =>
  intro k o _ hkd ho1 ho
  obtain ⟨p, hp, hpo⟩ := Yft (by omega) ho (Ygp hk1 (k + 1) (by omega))
  have hs := Yet l k
  rcases Nat.eq_zero_or_pos d with h0 | h0
  ·subst h0
   have h1 := Ycq l (k + 1) (fun x hx => by have := hmax x hx; omega)
   have h2 := Y10 (k + 1)
   rw [h1] at hp
   have : p = 0 := by
    rcases Nat.eq_zero_or_pos p with h | h
    ·exact h
    ·have := Nat.mul_pos h h2; omega
   omega
  ·have h1 := Ys4 (k := k + 1) hm (by omega)
   have hp1 : 1 ≤ p := by
    rcases Nat.eq_zero_or_pos p with h | h
    ·subst h; omega
    ·exact h
   have := ih (k + 1) p h0 (by omega) hp1 hp
   omega
def pairs : List Nat → List Nat
 | a :: b :: P => (a + b) :: pairs P
 | _ => []
theorem Y95 : ∀ (P : List Nat), (pairs P).length = P.length / 2
 | [] => by simp [pairs]
 | [_] => by simp [pairs]
 | a :: b :: P => by
  simp only [pairs, List.length_cons, Y95 P]
  omega
theorem Yfz : ∀ (P : List Nat) (b : Nat), 2 * b ≤ P.length → Y84 (pairs P) b = Y84 P (2 * b)
 | _, 0, _ => by simp [Y84]
 | [], b + 1, h => by simp at h
 | [_], b + 1, h => by simp at h; omega
 | x :: y :: P, b + 1, h => by
  have := Yfz P b (by simp at h; omega)
  rw [pairs, Y1g, this, show 2 * (b + 1) = 2 * b + 1 + 1 by omega, Y1g, Y1g]
  omega
def parcels (f : List Nat) : Nat → List Nat
 | 0 => []
 | t + 1 => isort (isort f ++ pairs (parcels f t))
def Tot : List Nat → Nat → Prop
 | [], j => j = 0
 | a :: qs, j => ∃ b, j = a + b ∧ Tot qs (2 * b)
theorem Y7w (f : List Nat) : ∀ (qs : List Nat) (j : Nat), Tot qs j → (∀ a ∈ qs, a ≤ f.length) → j ≤ (parcels f qs.length).length ∧ Y84 (parcels f qs.length) j ≤ (qs.map (Y84 (isort f))).sum := by
 intro qs
 induction qs with
 | nil => intro j h _; simp only [Tot] at h; subst h; simp [parcels, Y84]
 | cons a qs ih =>
  intro j h ha
  obtain ⟨b, rfl, hb⟩ := h
  obtain ⟨h1, h2⟩ := ih (2 * b) hb (fun x hx => ha x (List.mem_cons_of_mem _ hx))
  have haf := ha a (List.mem_cons_self ..)
  have hpl := Y95 (parcels f qs.length)
  have hps := Yfz (parcels f qs.length) b h1
  have e : parcels f (a :: qs).length = isort (isort f ++ pairs (parcels f qs.length)) := rfl
  rw [e]
  generalize parcels f qs.length = P at h1 h2 hpl hps ⊢
  have hal : ((isort f).take a).length = a := by rw [List.length_take, Y47]; omega
  have hbl : ((pairs P).take b).length = b := by rw [List.length_take]; omega
  refine ⟨?_, ?_⟩
  ·rw [Y47, List.length_append, Y47]; omega
  ·have hs : ((isort f).take a ++ (pairs P).take b).Sublist (isort f ++ pairs P) := List.Sublist.append (List.take_sublist _ _) (List.take_sublist _ _)
   have := Ygh hs
   rw [List.length_append, hal, hbl, List.sum_append] at this
   rw [List.map_cons, List.sum_cons]
   have e1 : ((pairs P).take b).sum = Y84 (pairs P) b := rfl
   have e2 : ((isort f).take a).sum = Y84 (isort f) a := rfl
   omega
def levels (l : List Nat) (k : Nat) : Nat → List Nat
 | 0 => []
 | t + 1 => Yeg l k :: levels l (k + 1) t
theorem Y7q (l : List Nat) (t k : Nat) : (levels l k t).length = t := by
 induction t generalizing k with
 | zero => rfl
 | succ t ih => simp [levels, ih]
theorem Yfk (l : List Nat) (t k : Nat) : ∀ a ∈ levels l k t, a ≤ l.length := by
 induction t generalizing k with
 | zero => intro a h; cases h
 | succ t ih =>
  intro a h
  rcases List.mem_cons.1 h with rfl | h
  ·exact List.countP_le_length
  ·exact ih (k + 1) a h
theorem Yco (g : Nat → Nat) (t : Nat) : Y32 g (t + 1) = g 0 + Y32 (fun i => g (i + 1)) t := by
 induction t with
 | zero => simp [Y32]
 | succ t ih => rw [Y32, ih]; simp only [Y32]; omega
theorem Ym5 (g : Nat → Nat) (l : List Nat) (t k : Nat) : ((levels l k t).map g).sum = Y32 (fun i => g (Yeg l (k + i))) t := by
 induction t generalizing k with
 | zero => rfl
 | succ t ih =>
  rw [Yco]
  simp only [levels, List.map_cons, List.sum_cons, ih (k + 1), Nat.add_zero]
  congr 1
  refine Y1i t (fun i _ => ?_)
  rw [show k + 1 + i = k + (i + 1) by omega]
theorem Yfs {l : List Nat} {k o : Nat} (hk : k < 30) (ho : taken l k = o * share k) : o ≤ Yeg l k := by
 have key : ∀ l : List Nat, taken l k ≤ Yeg l k * share k := by
  intro l
  induction l with
  | nil => simp [taken]
  | cons y l ih =>
   rw [Y5v]
   simp only [taken]
   split
   ·rename_i h
    have : share y ≤ share k := Nat.le_of_dvd (Y10 k) (by
     rcases Nat.lt_or_ge 30 y with h30 | h30
     ·unfold share
      rw [show 30 - y = 0 by omega]
      exact Nat.one_dvd _
     ·exact Y82 k y (by omega) h30)
    rw [Nat.add_mul]; omega
   ·rw [Nat.zero_add, Nat.zero_add]; exact ih
 have h1 := key l
 rw [ho] at h1
 exact Nat.le_of_mul_le_mul_right h1 (Y10 k)
theorem Yjk {l : List Nat} {L : Nat} (hk1 : kraft l = 1073741824) (hhi : ∀ x ∈ l, x ≤ L) (hL : L ≤ 30) :
  ∀ (t k o : Nat), 1 ≤ t → k + t = L → taken l k = o * share k → Tot (levels l k t) (2 * (Yeg l k - o)) := by
 intro t
 induction t with
 | zero => intro k o h; omega
 | succ t ih =>
  intro k o _ hkt ho
  obtain ⟨p, hp, hpo⟩ := Yft (by omega) ho (Ygp hk1 (k + 1) (by omega))
  have hs := Yet l k
  have hol := Yfs (by omega) ho
  rcases Nat.eq_zero_or_pos t with h0 | h0
  ·subst h0
   have h1 := Ycq l (k + 1) (fun x hx => by have := hhi x hx; omega)
   have h2 := Yoh l (k + 1) (fun x hx => by have := hhi x hx; omega)
   rw [h1] at hp
   have hp0 : p = 0 := by
    rcases Nat.eq_zero_or_pos p with h | h
    ·exact h
    ·have := Nat.mul_pos h (Y10 (k + 1)); omega
   exact ⟨0, by omega, by simp [levels, Tot]⟩
  ·have hpl : p ≤ Yeg l (k + 1) := by
    rcases Nat.lt_or_ge (k + 1) 30 with h30 | h30
    ·exact Yfs h30 hp
    ·omega
   have := ih (k + 1) p h0 (by omega) hp
   exact ⟨Yeg l (k + 1) - p, by omega, this⟩
theorem Yic {f : List Nat} {L : Nat} {l : List Nat} (h : Ok f L l) (hL1 : 1 ≤ L) (hL : L ≤ 30) (h2 : 2 ≤ f.length) (hf : ∀ x ∈ f, 1 ≤ x) : Y84 (parcels f L) (2 * (f.length - 1)) ≤ cost f l := by
 obtain ⟨l', g1, g2, g3⟩ := Ys7 hL h2 hf _ l (Nat.le_refl _) h
 have ht := Yjk g3 g1.hi hL L 0 1 hL1 (by omega) (by rw [Ycr l' g1.lo, g3]; rfl)
 rw [Yeu l' g1.lo, g1.len] at ht
 obtain ⟨_, h5⟩ := Y7w f _ _ ht (fun a ha => by rw [← g1.len]; exact Yfk l' L 0 a ha)
 rw [Y7q, Ym5] at h5
 refine Nat.le_trans h5 (Nat.le_trans ?_ g2)
 refine Nat.le_trans (Nat.le_of_eq (Y1i L (fun i _ => ?_))) (Yxe f l' L g1.len g1.hi)
 rw [Nat.zero_add]
end Go.Proofs.YtkkfkmoikcmhoaaGreat.Lm
namespace Go.Proofs.YtkkfkmoikcmhoaaGreat.Lm
open Bit Hf
theorem Yqk (f : List Nat) (L : Nat) (hL1 : 1 ≤ L) (hL : L ≤ 30) (hn : f.length ≤ 2 ^ L) : Ok f L (List.replicate f.length L) := by
 refine ⟨by simp, fun x hx => ?_, fun x hx => ?_, ?_⟩
 ·rw [List.eq_of_mem_replicate hx]; exact hL1
 ·rw [List.eq_of_mem_replicate hx]; exact Nat.le_refl _
 ·unfold kraft
  rw [List.map_replicate, List.sum_replicate_nat, ← Y3s L hL]
  exact Nat.mul_le_mul_right _ hn
theorem Ypv (x L : Nat) (hL : 1 ≤ L) : Least [x] L [1] := by
 refine ⟨⟨rfl, by simp, by simpa using hL, by decide⟩, fun l' h => ?_⟩
 match l', h.len with
 | [y], _ =>
  have := h.lo y (by simp)
  simp only [cost]
  have := Nat.mul_le_mul_left x this
  omega
theorem Ym3 (L : Nat) : Least [] L [] := ⟨⟨rfl, by simp, by simp, by decide⟩, fun l' _ => by simp [cost]⟩
def come (o : List Nat) : List Nat := o.filter (0 < ·)
def Y4o : List Nat → List Nat → List Nat
 | x :: o, y :: l => if 0 < x then y :: Y4o o l else Y4o o l
 | _, _ => []
theorem Y9g (o : List Nat) : ∀ x ∈ come o, 1 ≤ x := by
 intro x hx
 have := (List.mem_filter.1 hx).2
 simp at this
 omega
end Go.Proofs.YtkkfkmoikcmhoaaGreat.Lm
namespace Go.Proofs.YtkkfkmoikcmhoaaGreat.Lm
open Bit Hf
theorem Yue (x : Nat) (B : List Nat) : (ins x B).Perm (x :: B) := by
 induction B with
 | nil => exact List.Perm.refl _
 | cons b B ih =>
  unfold ins
  split
  ·exact List.Perm.refl _
  ·exact (ih.cons b).trans (List.Perm.swap ..)
theorem Ym1 (f : List Nat) : (isort f).Perm f := by
 induction f with
 | nil => exact List.Perm.refl _
 | cons x f ih => exact (Yue x _).trans (ih.cons x)
end Go.Proofs.YtkkfkmoikcmhoaaGreat.Lm
namespace Go.Proofs.YtkkfkmoikcmhoaaGreat.Lm
open Bit Hf
def far : Nat := 1152921504606846976
end Go.Proofs.YtkkfkmoikcmhoaaGreat.Lm
