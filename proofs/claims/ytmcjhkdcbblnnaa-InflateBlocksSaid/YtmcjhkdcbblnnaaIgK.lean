
/- The contracts of newBook, completeBook and isSmall. -/
import Derived.Test.YtmcjhkdcbblnnaaIgE
import Derived.Test.YtmcjhkdcbblnnaaIgI
import Derived.Test.YtmcjhkdcbblnnaaHfD
import Derived.Test.YtmcjhkdcbblnnaaHfF
namespace Go.Proofs.Ytmcjhkdcbblnnaa.Inf
open Go.RowKit Go.Proofs.Ytmcjhkdcbblnnaa.Oct Go.Proofs.Ytmcjhkdcbblnnaa.Bit Go.Proofs.Ytmcjhkdcbblnnaa.Hf
set_option linter.unusedVariables false
set_option linter.unusedSimpArgs false
set_option maxRecDepth 100000

theorem dig_prefix8 {a b : List Bool} (h : a.map dig <+: b.map dig) : a <+: b := by
  rw [List.prefix_iff_eq_take] at h ⊢
  rw [List.length_map, ← List.map_take] at h
  exact Hf.dig_inj h
theorem canonB_some8 (L : List Nat) (i : Nat) (s : List UInt8) (h : (canonB L)[i]? = some s) : ∃ hi : i < L.length, s = (wordAt (pos L L[i] i) L[i]).map dig := by
  obtain ⟨hi, he⟩ := List.getElem?_eq_some_iff.1 h
  have hi' : i < L.length := by rwa [canonB_length] at hi
  exact ⟨hi', by rw [← he, canonB_get L i hi hi']⟩
theorem canon_good8 (L : List Nat) (hL : ∀ n ∈ L, n ≤ 30) (hT : startN L 31 ≤ 1073741824) : Hf.Good (canonB L) := by
  constructor
  · intro s hs
    obtain ⟨i, hi⟩ := List.mem_iff_getElem?.1 hs
    obtain ⟨_, rfl⟩ := canonB_some8 L i s hi
    exact wordB_dig _
  · intro i j s t hi hj hij hs ht hp
    obtain ⟨hi', rfl⟩ := canonB_some8 L i s hi
    obtain ⟨hj', rfl⟩ := canonB_some8 L j t hj
    have h0 : L[i] ≠ 0 := by
      intro e
      apply hs
      rw [List.map_eq_nil_iff]
      exact List.eq_nil_of_length_eq_zero (by rw [wordAt_length, e])
    exact canon_free L (fun k hk => hL _ (List.getElem_mem hk)) hT i j hi' hj' hij h0 (dig_prefix8 hp)
theorem canon_short (L : List Nat) (hL : ∀ n ∈ L, n ≤ 30) : ∀ s ∈ canonB L, s.length ≤ 1000000 := by
  intro s hs
  obtain ⟨i, hi⟩ := List.mem_iff_getElem?.1 hs
  obtain ⟨hi', rfl⟩ := canonB_some8 L i s hi
  rw [List.length_map, wordAt_length]
  have := hL _ (List.getElem_mem hi')
  omega
theorem lensN_cast (L : List Nat) : lensN (castZ L) = L := by
  unfold lensN castZ
  rw [List.map_map]
  have e : (Int.toNat ∘ fun n : Nat => (n : Int)) = id := by funext n; simp
  rw [e, List.map_id]
theorem okZ_cast (L : List Nat) (hL : ∀ n ∈ L, n ≤ 30) : okZ (castZ L) = true := by
  unfold okZ castZ
  rw [List.all_eq_true]
  intro z hz
  obtain ⟨n, hn, rfl⟩ := List.mem_map.1 hz
  have := hL n hn
  simp
  omega
theorem cErr_ok (L : List Nat) (hL : ∀ n ∈ L, n ≤ 30) (h : startN L 31 ≤ 1073741824) : cErr (castZ L) = 0 := by
  unfold cErr
  rw [if_pos (okZ_cast L hL), lensN_cast, if_pos h]
theorem cErr_over (L : List Nat) (hL : ∀ n ∈ L, n ≤ 30) (h : ¬ startN L 31 ≤ 1073741824) : cErr (castZ L) = 3 := by
  unfold cErr
  rw [if_pos (okZ_cast L hL), lensN_cast, if_neg h]
/-- the places, so many of them written -/
def placesF (n k : Nat) : List Value := places k ++ List.replicate (n - k) (.int .i64 0)
theorem placesF_zero (n : Nat) : placesF n 0 = List.replicate n (.int .i64 0) := by simp [placesF, places, ints]
theorem placesF_all (n : Nat) : placesF n n = places n := by simp [placesF]
theorem placesF_length (n k : Nat) (h : k ≤ n) : (placesF n k).length = n := by simp [placesF, places_length]; omega
theorem places_succ (k : Nat) : places (k + 1) = places k ++ [.int .i64 (k : Int)] := by simp [places, ints, List.range_succ]
theorem placesF_step (n k : Nat) (h : k < n) : (placesF n k).set k (.int .i64 (k : Int)) = placesF n (k + 1) := by
  unfold placesF
  rw [List.set_append, if_neg (by rw [places_length]; omega), places_length, Nat.sub_self, places_succ, List.append_assoc]
  congr 1
  rw [show n - k = (n - (k + 1)) + 1 from by omega, List.replicate_succ]
  rfl
theorem blk_set9 {w : World} {g : Nat} {vs : List Value} {T : TypeId} {fr : Nat × Nat} (h : w.heap[g]? = some (.cells vs.toArray T fr)) (i : Nat) (u : Value) : (w.setCell ⟨g, i, none⟩ u).heap[g]? = some (.cells (vs.set i u).toArray T fr) := by
  simp [World.setCell, Array.getElem?_modify, h]
/-- what newBook gives -/
def NbP (w : World) (L : List Nat) (e : Ending) (w' : World) : Prop :=
  Below w.heap.size w w' ∧ ((¬ startN L 31 ≤ 1073741824 ∧ e = .returned (.tuple #[.pointer none, .bool false, .int .i64 3])) ∨
    (startN L 31 ≤ 1073741824 ∧ ∃ B g, e = .returned (.tuple #[.pointer (some ⟨g, 0, none⟩), .bool (decide (startN L 31 = 1073741824)), .int .i64 0]) ∧ w.heap.size ≤ B ∧ Bo w' B w'.heap.size g (canonW L)))
def PlcSt (w : World) (n : Nat) (q : Option Addr) (ws : List Value) (H k : Nat) (wr : World) : Prop :=
  Below w.heap.size w wr ∧ wr.heap[H]? = some (.cells (placesF n k).toArray 3 (0, 0)) ∧ VRow wr H q ws
theorem VRow.set_far {w : World} {C : Nat} {q : Option Addr} {vs : List Value} (h : VRow w C q vs) {i : Nat} (u : Value) : VRow (w.setCell ⟨C, i, none⟩ u) C q vs := by
  intro hp
  obtain ⟨b, off, rfl, hlt, hc⟩ := h hp
  exact ⟨b, off, rfl, hlt, fun j hj => (World.cell?_of_block (w := w) (Below.heap_setCell _ _ _ _ (by show b ≠ C; omega))).trans (hc j hj)⟩
set_option maxHeartbeats 4000000 in
theorem newBook_any (p : Option Addr) (cap n : Nat) (L : List Nat) (w : World) (hr : VRow w w.heap.size p (ints (castZ L))) (hn : L.length = n) (hL : ∀ m ∈ L, m ≤ 30) (hn3 : n ≤ 300) (hnil : p = none → cap = 0) :
    Calls Try.prog 68 #[.slice p n cap] w (NbP w L) := by
  obtain ⟨i0, hi, hz0, hz1, hz2⟩ := info_parts Try.infoInt
  have HCA := Lib.hid (canon_any p n cap (castZ L) w hr (by rw [castZ_length]; exact hn) (by omega))
  have HR := Lib.hid hr
  have HN := Lib.hid hn
  have HL := Lib.hid hL
  clear hr hn hL hnil
  by_cases hov : startN L 31 ≤ 1073741824
  · have HE := Lib.hid (cErr_ok L HL.out hov)
    have HOV := Lib.hid hov
    have HGOOD := Lib.hid (canon_good8 L HL.out hov)
    clear hov
    go_enter Try.func68, Try.ntmps68
    go_wp2_with fail
    refine HCA.out.mono ?_
    rintro e w1 ⟨hb1, hres⟩
    rcases hres with ⟨hne, _⟩ | ⟨_, q, c, rfl, hv, hq0, hqc, hqm, hqa⟩
    · exact absurd HE.out hne
    rw [lensN_cast] at hv
    rw [castZ_length] at hqc
    rw [lensN_cast, castZ_length, HN.out]
    rw [HN.out] at hqc
    obtain ⟨full, hfull⟩ : ∃ full, full = decide (startN L 31 = 1073741824) := ⟨_, rfl⟩
    rw [← hfull]
    have HFULL := Lib.hid hfull
    have HB1 := Lib.hid hb1
    have HV := Lib.hid hv
    have HQ0 := Lib.hid hq0
    clear hb1 hv hq0 hqa hfull
    go_wp2_with (at_make; refine wpList_make_full _ rfl _ _ 30 rfl w1.heap.size 3 i0 (.int .i64 0) 1 Try.underlying30 hi hz0 hz1 .i64 .i64 (n : Int) (n : Int) n rfl rfl rfl rfl ?c2 ?c3 ?c4 ?_)
    case c2 => rw [hz2]; omega
    case c3 => unfold maxLen; omega
    case c4 => omega
    intro w2 hown hgrow
    have hb2 : Below w1.heap.size w1 w2 := (Below.refl _ _).grown hgrow (Nat.le_refl _) (fun k hk => by cases hk)
    have hblk := blk_of_own hown
    have hmv : (madeCells #[Value.int .i64 0] n).toList = placesF n 0 := by rw [made_vals, placesF_zero]
    rw [hmv] at hblk
    have HST := Lib.hid (show PlcSt w n q (strs (canonB L)) w1.heap.size 0 w2 from ⟨HB1.out.trans (hb2.mono HB1.out.size), hblk, HV.out.below hb2 (Nat.le_refl _)⟩)
    have HHs := HB1.out.size
    clear hown hgrow hb2 hblk hmv HV
    generalize hH : w1.heap.size = H at HST HHs ⊢
    clear hH
    go_wp2_with fail
    go_loopw [9, 25] (fun u i wr => ∃ k : Nat, k ≤ n ∧ i = .int .i64 (k : Int) ∧ Hid (PlcSt w n q (strs (canonB L)) H k wr)) (fun u i wr => n - (intOf i).toNat)
    case atStart => exact ⟨0, by omega, rfl, HST⟩
    case round =>
      obtain ⟨k, hk, rfl, HB⟩ := hrel
      by_cases hlt : k < n
      · have ql : decide ((k : Int) < (n : Int)) = true := by simpa using hlt
        have i1 : (0 : Int) ≤ (k : Int) := by omega
        have i2 : (k : Int) < (n : Int) := by omega
        have hblk := HB.out.2.1
        have u0 : wr.cell? ⟨H, k, none⟩ = some ((placesF n k)[k]'(by rw [placesF_length n k hk]; exact hlt)) := by simp [World.cell?, hblk, placesF_length n k hk, hlt]
        have f0 : wr.frozen? ⟨H, k, none⟩ = false := by simp [World.frozen?, hblk]
        generalize (placesF n k)[k]'(by rw [placesF_length n k hk]; exact hlt) = v0 at u0
        have HNX : Hid (PlcSt w n q (strs (canonB L)) H (k + 1) (wr.setCell ⟨H, k, none⟩ (.int .i64 (k : Int)))) := Lib.hid ⟨HB.out.1.setCell (p := ⟨H, k, none⟩) HHs _, by
          rw [← placesF_step n k hlt]
          exact blk_set9 hblk k _, VRow.set_far HB.out.2.2 _⟩
        clear hblk HB HST
        go_wp2_with fail
        go_roundw
        case rel => exact ⟨k + 1, by omega, by first | rfl | (push_cast; rfl), HNX⟩
        case measure => simp [intOf]; omega
      · have hkn : k = n := by omega
        subst hkn
        have hblk := HB.out.2.1
        have hHlt : H < wr.heap.size := by
          rcases Nat.lt_or_ge H wr.heap.size with h | h
          · exact h
          · rw [Array.getElem?_eq_none h] at hblk; cases hblk
        rw [placesF_all] at hblk
        have hv2 : VRow wr wr.heap.size (some ⟨H, 0, none⟩) (places k) := vrow_blk hblk hHlt
        have HNEW := Lib.hid (newI_any q (some ⟨H, 0, none⟩) k c k (canonB L) (places k) wr (HB.out.2.2.mono (Nat.le_of_lt hHlt)) (by rw [canonB_length, HN.out]) HQ0.out hv2 (places_length _) (fun h => by cases h) (by omega) (by exact ints_one) (canon_short L HL.out))
        have ql : decide ((k : Int) < (k : Int)) = false := by simp
        have HBW := Lib.hid HB.out.1
        clear hblk hv2 HST HB hlt hk
        go_wp2_with fail
        refine HNEW.out.mono ?_
        rintro e w5 ⟨hb5, hres⟩
        rcases hres with ⟨cc, _, _, hng⟩ | ⟨g, rfl, hg1, hg2, hbk⟩
        · exact absurd HGOOD.out hng
        have hbo : Bo w5 wr.heap.size w5.heap.size g (canonW L) := by
          unfold Bo
          rw [canonW_length, HN.out]
          exact hbk.boU hg1
        have HBO := Lib.hid hbo
        have HB5 := Lib.hid (HBW.out.trans (hb5.mono HBW.out.size))
        have HBZ := Lib.hid HBW.out.size
        clear hb5 hg1 hg2 hbk hbo
        go_wp2_with fail
        go_ret3
        exact ⟨HB5.out, .inr ⟨HOV.out, _, g, by rw [HFULL.out]; rfl, HBZ.out, HBO.out⟩⟩
  · have HE := Lib.hid (cErr_over L HL.out hov)
    have HOV := Lib.hid hov
    clear hov
    go_enter Try.func68, Try.ntmps68
    go_wp2_with fail
    refine HCA.out.mono ?_
    rintro e w1 ⟨hb1, hres⟩
    rcases hres with ⟨_, rfl⟩ | ⟨he, _⟩
    · rw [HE.out]
      have HB1 := Lib.hid hb1
      clear hb1
      go_wp2_with fail
      go_ret3
      exact ⟨HB1.out, .inl ⟨HOV.out, rfl⟩⟩
    · rw [HE.out] at he; cases he
end Go.Proofs.Ytmcjhkdcbblnnaa.Inf
