
/- The document's Decode, Same and Encode. -/
import Derived.Test.YtmbfgejephgojaaGreatDoorMiT
import Derived.Test.YtmbfgejephgojaaGreatDoorBitV
import Derived.Deep.RegionHeld3
namespace Go.Proofs.YtmbfgejephgojaaGreatDoor.Mh
open Go.RowKit Go.Proofs.YtmbfgejephgojaaGreatDoor.Oct Go.Proofs.YtmbfgejephgojaaGreatDoor.Bit
open Go.Proofs.YtmbfgejephgojaaGreatDoor.Rn (changes zl zl_length Valid)
open Go.Proofs.YtmbfgejephgojaaGreatDoor.Lp (VRow ints ints_length vrow_own)
set_option linter.unusedVariables false
set_option linter.unusedSimpArgs false
set_option maxRecDepth 100000

theorem readRowA_le {L : List Bool} {wd : Nat} : ∀ (f t : Nat) (P : List Bool) (b : Bool), L.length + 1 ≤ f + t → t ≤ L.length → (readRowA L wd t P b).1 ≤ L.length
  | 0, t, P, b, hf, ht => by omega
  | f + 1, t, P, b, hf, ht => by
    rw [readRowA_eq L wd t P b ht]
    have h1 := lenA_lt b (L := L) (most := wd - P.length) (n := 0) ht
    rcases hy : Fx.lenA b L (wd - P.length) t 0 with ⟨t1, c | m⟩
    · rw [hy] at h1
      exact h1.1
    · rw [hy] at h1
      simp only at h1 ⊢
      split
      · exact h1.1
      · exact readRowA_le f t1 _ _ (by have := (h1.2.2 m rfl).1; omega) h1.1
/-- texts of pixels -/
def txt (R : List (List Bool)) : List Value := R.map fun X => .string (ds X)
theorem txt_length (R : List (List Bool)) : (txt R).length = R.length := by simp [txt]
theorem txt_append (R S : List (List Bool)) : txt (R ++ S) = txt R ++ txt S := by simp [txt]
theorem txt_get {w : World} {C b off : Nat} {R : List (List Bool)} (h : VRow w C (some ⟨b, off, none⟩) (txt R)) {i : Nat} (hi : i < R.length) : w.cell? ⟨b, off + i, none⟩ = some (.string (ds R[i])) := by
  obtain ⟨b', off', e, _, hc⟩ := h (by rw [txt_length]; omega)
  injection e with e
  injection e with e1 e2 _
  subst e1 e2
  rw [hc i (by rw [txt_length]; exact hi)]
  simp [txt]
/-- an own row of texts, in none of N's blocks -/
def Txs (w : World) (base : Nat) (N : Nat → Prop) (v : Value) (R : List (List Bool)) : Prop := w.ownsRow base 9 1 v R.length (txt R) ∧ ∀ k, v.ownBlock = some k → ¬ N k
theorem Txs.nil (w : World) (base : Nat) (N : Nat → Prop) : Txs w base N (.slice none 0 0) [] := ⟨World.ownsRow_nil _ _ _ _, fun k h => by cases h⟩
theorem Txs.only {S N : Nat → Prop} {w w' : World} {base : Nat} {v : Value} {R : List (List Bool)} (h : Txs w base N v R) (ho : Only S w w') (hS : ∀ k, base ≤ k → k < w.heap.size → ¬ N k → ¬ S k) : Txs w' base N v R := by
  refine ⟨⟨h.1.1, ?_⟩, h.2⟩
  rcases h.1.2 with hn | ⟨g, cap, cur, rfl, hb, hh, r⟩
  · exact .inl hn
  · refine .inr ⟨g, cap, cur, rfl, hb, ?_, r⟩
    have hlt : g < w.heap.size := by
      rcases Nat.lt_or_ge g w.heap.size with hlt | hge
      · exact hlt
      · rw [Array.getElem?_eq_none hge] at hh; cases hh
    rw [ho.2.2.2.2 g hlt (hS g hb hlt (h.2 g rfl))]
    exact hh
theorem Txs.tbl {w : World} {base : Nat} {N : Nat → Prop} {v : Value} {R : List (List Bool)} (h : Txs w base N v R) : ∃ q c, v = .slice q R.length c ∧ VRow w w.heap.size q (txt R) ∧ R.length ≤ c ∧ c ≤ maxLen := by
  obtain ⟨q, c, h3, h4, h5, h6, h7, _⟩ := vrow_own h.1 (txt_length R)
  exact ⟨q, c, h3, h7, h5, h6⟩
theorem Tryz.infoStrH : (Tryz.prog.info? 9).map (fun i => (i.zero, i.size, i.bytes)) = some (some (.string ByteArray.empty), 1, 16) := by kernel_rfl
/-- a text appended to texts -/
theorem wpList_append_txt {w w0 : World} {ops : Array Oper} {rest : List Oper} {o : Oper} {a : Act} {Q : Exit → Act → World → Prop}
    (hgd : o.guard = none) (s x : Operand) (ho : o.op = .call { callee := .builtin .append, args := #[s, x], argTypes := #[66, 66] })
    (base : Nat) (N : Nat → Prop) (v : Value) (R : List (List Bool)) (n : Nat) (hn : R.length = n) (hs : a.eval s = v) (h0 : Txs w0 base N v R) (X : List Bool) (T : ByteArray) (hTX : ds X = T) (hNew : ∀ k, w0.heap.size ≤ k → ¬ N k)
    (hw : w = w0.alloc (.cells #[.string T] 9)) (hx : a.eval x = .slice (some ⟨w0.heap.size, 0, none⟩) 1 1) (hl : n ≤ 1000) (hbase : base ≤ w0.heap.size)
    (h : ∀ v' w', Txs w' base N v' (R ++ [X]) → Below base w0 w' → (∀ k, v'.ownBlock = some k → v.ownBlock = some k ∨ w0.heap.size ≤ k) → Only (fun k => v.ownBlock = some k) w0 w' → wpList Tryz.prog ops Q rest (a.put o.dst v') w') :
    wpList Tryz.prog ops Q (o :: rest) a w := by
  obtain ⟨i0, hi, hz0, hz1, hz2⟩ := info_parts Tryz.infoStrH
  subst hw
  subst hn
  subst hTX
  have hb1 : Below w0.heap.size w0 (w0.alloc (.cells #[.string (ds X)] 9)) := (Below.refl _ w0).alloc (Nat.le_refl _) _
  have hT := h0.only (Only.of_below hb1 : Only (fun _ => False) _ _) (fun _ _ _ _ e => e)
  obtain ⟨h1, hN0⟩ := hT
  refine wpList_append_lies _ hgd s x 66 ho base 9 i0 (.string ByteArray.empty) 1 16 Tryz.underlying66 hi hz0 hz1 hz2 rfl (by decide) v R.length (txt R) hs h1 ⟨w0.heap.size, 0, none⟩ 1 1 [.string (ds X)] hx rfl ?_ (fun u hu => by simp at hu; subst hu; rfl) (by decide) (by unfold maxLen; omega) (by omega) (Nat.le_trans hbase hb1.size) _ rfl ?_
  · intro j u hj
    have hj0 : j = 0 := by
      have := (List.getElem?_eq_some_iff.1 hj).1
      simp at this
      omega
    subst hj0
    have hq : u = .string (ds X) := by simpa using hj.symm
    subst hq
    rw [add_plain]
    simp
  · intro g' cap w' k1 k2 k3 k4
    have hon : Only (fun k => v.ownBlock = some k) (w0.alloc (.cells #[.string (ds X)] 9)) w' := ⟨k2.os, k2.tape, k2.output, k2.size, fun k hk hs => k2.block k hk (fun e => hs e.symm)⟩
    have hold : ∀ k, (Value.slice (some ⟨g', 0, none⟩) (R.length + 1) cap).ownBlock = some k → v.ownBlock = some k ∨ w0.heap.size ≤ k := fun k e => by
      injection e with e
      simp only at e
      rcases k3 with h3 | h3
      · left; rw [h3, e]
      · right; have := hb1.size; omega
    refine h _ w' ⟨?_, fun k hk => ?_⟩ ((hb1.mono hbase).trans ((Below.refl _ _).grown k2 (Nat.le_trans hbase hb1.size) (fun k hk => (World.ownsRow.lt h1 k hk).1))) hold ((Only.of_below hb1 : Only (fun k => v.ownBlock = some k) _ _).trans hon)
    · rw [List.length_append, txt_append]
      exact k1
    · rcases hold k hk with h3 | h3
      · exact hN0 k h3
      · exact hNew k h3
def RDecP (w : World) (r : Except Nat (List (List Bool))) (e : Ending) (w' : World) : Prop := Below w.heap.size w w' ∧ match r with
  | .error ce => e = .returned (.tuple #[.slice none 0 0, .int .i64 (ce : Int)])
  | .ok Xs => ∃ q c, e = .returned (.tuple #[.slice q Xs.length c, .int .i64 0]) ∧ VRow w' w'.heap.size q (txt Xs)
end Go.Proofs.YtmbfgejephgojaaGreatDoor.Mh
/- The document's Same over rows, and its Encode. -/
namespace Go.Proofs.YtmbfgejephgojaaGreatDoor.Mh
open Go.RowKit Go.Proofs.YtmbfgejephgojaaGreatDoor.Oct Go.Proofs.YtmbfgejephgojaaGreatDoor.Bit
open Go.Proofs.YtmbfgejephgojaaGreatDoor.Rn (changes zl zl_length Valid)
open Go.Proofs.YtmbfgejephgojaaGreatDoor.Lp (VRow ints ints_length vrow_own)
set_option linter.unusedVariables false
set_option linter.unusedSimpArgs false
set_option maxRecDepth 100000

theorem txt_row {w : World} {C : Nat} {q : Option Addr} {R : List (List Bool)} (h : VRow w C q (txt R)) {i : Nat} (hi : i < R.length) : ∃ b off, q = some ⟨b, off, none⟩ ∧ b < C ∧ w.cell? ⟨b, off + i, none⟩ = some (.string (ds R[i])) := by
  obtain ⟨b, off, e, hb, _⟩ := h (by rw [txt_length]; omega)
  subst e
  exact ⟨b, off, rfl, hb, txt_get h hi⟩
theorem Tbl.get2 {w : World} {C : Nat} {q : Option Addr} {R : List (List Nat)} (h : Tbl w C q R) {k : Nat} (hk : k < R.length) : ∃ b off, q = some ⟨b, off, none⟩ ∧ b < C ∧ ∃ qk ck, w.cell? ⟨b, off + k, none⟩ = some (.slice qk R[k].length ck) ∧ VRow w C qk (ints (zl R[k])) := by
  obtain ⟨vs, h1, h2, h3⟩ := h
  obtain ⟨b, off, e, hb, hc⟩ := h2 (by omega)
  obtain ⟨qk, ck, h4, h5, h6⟩ := h3 k hk
  refine ⟨b, off, e, hb, qk, ck, ?_, h5⟩
  have h7 := hc k (by omega)
  rw [List.getElem?_eq_getElem (by omega)] at h4
  injection h4 with h4
  rw [h7, h4]
theorem pageP_append : ∀ (a b : List (List Bool)) (l : List Bool), pageP l (a ++ b) = pageP (pageP l a) b
  | [], b, l => rfl
  | r :: a, b, l => by rw [List.cons_append, pageP, pageP_append a b, pageP]
end Go.Proofs.YtmbfgejephgojaaGreatDoor.Mh
/- The walk of MhPages. -/
namespace Go.Proofs.YtmbfgejephgojaaGreatDoor.Mh
open Go.RowKit Go.Proofs.YtmbfgejephgojaaGreatDoor.Oct Go.Proofs.YtmbfgejephgojaaGreatDoor.Bit
open Go.Proofs.YtmbfgejephgojaaGreatDoor.Fx (Tab TrueT)
open Go.Proofs.YtmbfgejephgojaaGreatDoor.Rn (changes zl zl_length Valid)
open Go.Proofs.YtmbfgejephgojaaGreatDoor.Lp (VRow ints ints_length)
set_option linter.unusedVariables false
set_option linter.unusedSimpArgs false
set_option maxRecDepth 100000

theorem restR_len2 : ∀ (l : List Bool) (b : Bool) (n : Nat), n + l.length ≤ 2000 → (restR b n l).length ≤ 26 * (l.length + 1)
  | [], b, n, h => by
    rw [restR_nil]
    simpa using tell_len2 b (n := n) (by simp at h; omega)
  | x :: l, b, n, h => by
    rw [List.length_cons] at h ⊢
    by_cases hx : x = b
    · subst hx
      rw [restR_same]
      have := restR_len2 l x (n + 1) (by omega)
      omega
    · have hb : (!b) = x := by cases b <;> cases x <;> simp_all
      subst hb
      rw [restR_turn, List.length_append]
      have h1 := restR_len2 l (!b) 1 (by omega)
      have h2 := tell_len2 b (n := n) (by omega)
      omega
theorem decB_len {L : List Bool} {wd : Nat} {Xs : List (List Bool)} (hL : ∃ m, L.length = 8 * m) : ∀ (j t : Nat) (acc : List (List Bool)), t ≤ L.length → (∀ X ∈ acc, X.length = wd) → decB L wd j t acc = .ok Xs → (∀ X ∈ Xs, X.length = wd) ∧ Xs.length = acc.length + j
  | 0, t, acc, ht, ha, h => by
    injection h with h
    subst h
    exact ⟨ha, rfl⟩
  | j + 1, t, acc, ht, ha, h => by
    obtain ⟨m, hm⟩ := hL
    have h8 : 8 * ((t + 7) / 8) ≤ L.length := by omega
    rw [decB] at h
    have hle := readRowA_le (L := L) (wd := wd) (L.length + 1) (8 * ((t + 7) / 8)) [] false (by omega) h8
    have hlen := fun X hX => readRowA_len (L := L) (n := wd) (X := X) (L.length + 1) (8 * ((t + 7) / 8)) [] false (by omega) h8 hX
    rcases hy : readRowA L wd (8 * ((t + 7) / 8)) [] false with ⟨t1, c | X⟩
    · rw [hy] at h; cases h
    · rw [hy] at h hle hlen
      simp only at h hle hlen
      have h9 := decB_len ⟨m, hm⟩ j t1 (acc ++ [X]) hle (fun Y hY => by
        rcases List.mem_append.1 hY with e | e
        · exact ha Y e
        · rw [List.mem_singleton.1 e]; exact hlen X rfl) h
      refine ⟨h9.1, ?_⟩
      rw [h9.2, List.length_append]
      simp
      omega
def decF (L : List Bool) (z n : Int) : List (List Bool) × Int := if wideM z = true ∧ 0 ≤ n then match decB L z.toNat n.toNat 0 [] with
  | .ok Xs => (Xs, 0)
  | .error e => ([], (e : Int))
  else ([], 1)
theorem decF_len {L : List Bool} {z n : Int} (hL : ∃ m, L.length = 8 * m) (hz : z ≤ 1000) (hn : n ≤ 1000) : (∀ X ∈ (decF L z n).1, X.length ≤ 1000) ∧ (decF L z n).1.length ≤ 1000 := by
  unfold decF
  split
  · rename_i h
    have h0 := of_decide_eq_true h.1
    rcases hy : decB L z.toNat n.toNat 0 [] with e | Xs
    · exact ⟨fun X h => (by cases h), Nat.zero_le _⟩
    · have h1 := decB_len hL n.toNat 0 [] (Nat.zero_le _) (fun X h => by cases h) hy
      refine ⟨fun X hX => ?_, ?_⟩
      · have := h1.1 X hX; omega
      · have h2 := h1.2
        simp only [List.length_nil] at h2
        show Xs.length ≤ 1000
        omega
  · exact ⟨fun X h => (by cases h), Nat.zero_le _⟩
theorem decode_gen (w : World) (hT : Tab w) (p : Option Addr) (len cap : Nat) (xs : List UInt8) (z n : Int) (hr : Row w p xs) (hx : xs.length = len) (hnil : p = none → cap = 0) (hl : len ≤ 1000000) (hn : n ≤ 1000) :
    Calls Tryz.prog 9 #[.slice p len cap, .int .i64 z, .int .i64 n] w fun e w' => Below w.heap.size w w' ∧ ∃ q c, e = .returned (.tuple #[.slice q (decF (bitsOf false xs) z n).1.length c, .int .i64 (decF (bitsOf false xs) z n).2]) ∧ Tbl w' w'.heap.size q ((decF (bitsOf false xs) z n).1.map changes) := by
  unfold decF
  by_cases h : wideM z = true ∧ 0 ≤ n
  · rw [if_pos h]
    have h0 := of_decide_eq_true h.1
    have hz : z = (z.toNat : Int) := by omega
    have hnn : n = (n.toNat : Int) := by omega
    have hd := decode_any w hT p len cap xs z.toNat n.toNat hr hx hnil hl (by omega) (by omega) (by omega)
    rw [← hz, ← hnn] at hd
    refine hd.mono ?_
    rintro e w' ⟨hb, hm⟩
    rcases hy : decB (bitsOf false xs) z.toNat n.toNat 0 [] with c | Xs
    · rw [hy] at hm
      exact ⟨hb, none, 0, hm, Tbl.nil _ _ _⟩
    · rw [hy] at hm
      obtain ⟨q, c, h1, h2⟩ := hm
      exact ⟨hb, q, c, h1, h2⟩
  · rw [if_neg h]
    refine (decode_bad w p len cap z n (by
      by_cases h1 : wideM z = true
      · right
        have : ¬ 0 ≤ n := fun h2 => h ⟨h1, h2⟩
        omega
      · left; simpa using h1)).mono ?_
    rintro e w' ⟨rfl, rfl⟩
    exact ⟨Below.refl _ _, none, 0, rfl, Tbl.nil _ _ _⟩
end Go.Proofs.YtmbfgejephgojaaGreatDoor.Mh
