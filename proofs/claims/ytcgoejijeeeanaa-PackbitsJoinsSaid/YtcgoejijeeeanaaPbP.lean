/- The contract of appendPiece: what a whole piece stands for, behind a row of the call's own. -/
import Derived.Test.YtcgoejijeeeanaaPbR
namespace Go.Proofs.Ytcgoejijeeeanaa.Pb
open Go.RowKit Go.Proofs.Ytcgoejijeeeanaa.Oct
set_option linter.unusedVariables false

theorem own_below {w w' : World} {base e n : Nat} {v : Value} {cs : List Value} (h : w.ownsRow base e 1 v n cs) (hb : Below w.heap.size w w') : w'.ownsRow base e 1 v n cs := by
  refine ⟨h.1, ?_⟩
  rcases h.2 with hn | ⟨g, cap, cur, rfl, hbs, hh, r⟩
  · exact .inl hn
  · refine .inr ⟨g, cap, cur, rfl, hbs, ?_, r⟩
    have hlt : g < w.heap.size := by
      rcases Nat.lt_or_ge g w.heap.size with hlt | hge
      · exact hlt
      · rw [Array.getElem?_eq_none hge] at hh; cases hh
    rw [hb.block g hlt]
    exact hh
theorem grown_below {w w' : World} {base e n : Nat} {v : Value} {cs : List Value} (h : w.ownsRow base e 1 v n cs) (hg : w.grownBy w' v.ownBlock) (hb : base ≤ w.heap.size) : Below base w w' :=
  (Below.refl _ w).grown hg hb (fun k hk => (h.lt k hk).1)
/-- a row of the call's own: these bytes, and below the base all is as it was -/
def OwnP (base : Nat) (w : World) (ys : List UInt8) (e : Ending) (w' : World) : Prop :=
  ∃ v', e = .returned v' ∧ w'.ownsRow base 5 1 v' ys.length (cellsOf ys) ∧ Below base w w'
set_option maxHeartbeats 400000 in
set_option maxRecDepth 100000 in
theorem appendPiece_any (base : Nat) (v : Value) (ys : List UInt8) (p : Option Addr) (m c : Nat) (zs out : List UInt8) (w : World) (hown : w.ownsRow base 5 1 v ys.length (cellsOf ys)) (hbase : base ≤ w.heap.size)
    (hr : Row w p zs) (hz : zs.length = m) (hmc : m ≤ c) (hcm : c ≤ maxLen) (hp : piece zs = some (out, m)) (hl : ys.length ≤ 100000000) :
    Calls Try.prog 12 #[v, .slice p m c] w (OwnP base w (ys ++ out)) := by
  unfold maxLen at hcm
  have hsz := piece_size hp
  rcases zs with _ | ⟨d, rest⟩
  · rw [piece_nil] at hp; cases hp
  · have HR := Lib.hid hr
    obtain ⟨b, off, rfl, hb, hc⟩ := hr (by simp)
    have c0 : w.cell? ⟨b, off, none⟩ = some (.int .u8 (d.toNat : Int)) := hc 0 (by simp)
    have hlen : m = rest.length + 1 := by simpa using hz.symm
    have hd := d.toNat_lt
    clear hc hz
    have HO := Lib.hid hown
    have HRd := Lib.hid (row_drop HR.out 1)
    simp only [List.drop_succ_cons, List.drop_zero] at HRd
    have HB := Lib.hid hbase
    clear hown hbase
    rcases Nat.lt_trichotomy d.toNat 128 with h1 | h1 | h1
    · by_cases h2 : rest.length ≤ d.toNat
      · rw [piece_short d rest h1 h2] at hp; cases hp
      · rw [piece_lit d rest h1 (by omega)] at hp
        injection hp with hp
        injection hp with e1 e2
        have hout : out = rest := by rw [← e1]; exact List.take_of_length_le (by omega)
        subst hout
        have HM := Lib.hid hlen
        have hm1 : 1 < m := by omega
        have hm2 : m ≤ 129 := by omega
        have hq : decide (128 < (d.toNat : Int)) = false := by simp; omega
        have hc1 : ¬ c = 1 := by omega
        have hrl : out.length = m - 1 := by omega
        have HL := Lib.hid hrl
        generalize d.toNat = dn at c0 hd hq
        clear e1 e2 h1 h2 hrl hlen hsz
        go_enter Try.func12, Try.ntmps12
        go_wp2_with (at_builtin; refine wpList_append_bytes rfl _ _ rfl base _ ys.length ys rfl HO.out (some ⟨b, off + 1, none⟩) (m - 1) (c - 1) out rfl HRd.out HL.out (fun h => by cases h) (by omega) HB.out ?_)
        intro v' w' hown2 hgrow hv
        have HO2 := Lib.hid hown2
        have HG := Lib.hid (grown_below HO.out hgrow HB.out)
        clear hown2 hgrow hv
        go_wp2_with fail
        go_ret
        exact ⟨v', rfl, by rw [List.length_append, HL.out]; exact HO2.out, HG.out⟩
    · rw [piece_128 d rest h1] at hp
      injection hp with hp
      injection hp with e1 e2
      subst e1
      subst e2
      rw [h1] at c0
      rw [List.append_nil]
      clear h1 hd hsz hlen hr HR HRd
      by_cases hc1 : c = 1
      · subst hc1
        have hrn : Row w (some ⟨b, off, none⟩) [] := fun h => absurd h (by simp)
        go_enter Try.func12, Try.ntmps12
        go_wp2_with (at_builtin; refine wpList_append_bytes rfl _ _ rfl base _ ys.length ys rfl HO.out (some ⟨b, off, none⟩) 0 0 [] rfl hrn rfl (fun h => by cases h) (by omega) HB.out ?_)
        intro v' w' hown2 hgrow hv
        have HO2 := Lib.hid hown2
        have HG := Lib.hid (grown_below HO.out hgrow HB.out)
        clear hown2 hgrow hv
        go_wp2_with fail
        go_ret
        exact ⟨v', rfl, by simpa using HO2.out, HG.out⟩
      · have hrn : Row w (some ⟨b, off + 1, none⟩) [] := fun h => absurd h (by simp)
        go_enter Try.func12, Try.ntmps12
        go_wp2_with (at_builtin; refine wpList_append_bytes rfl _ _ rfl base _ ys.length ys rfl HO.out (some ⟨b, off + 1, none⟩) 0 (c - 1) [] rfl hrn rfl (fun h => by cases h) (by omega) HB.out ?_)
        intro v' w' hown2 hgrow hv
        have HO2 := Lib.hid hown2
        have HG := Lib.hid (grown_below HO.out hgrow HB.out)
        clear hown2 hgrow hv
        go_wp2_with fail
        go_ret
        exact ⟨v', rfl, by simpa using HO2.out, HG.out⟩
    · rcases rest with _ | ⟨y, t⟩
      · rw [piece_one d h1] at hp; cases hp
      · rw [piece_run d y t h1] at hp
        injection hp with hp
        injection hp with e1 e2
        subst e1
        have ht : t = [] := by
          rw [← e2] at hlen
          simp at hlen
          exact hlen
        subst ht
        subst e2
        have hq : decide (128 < (d.toNat : Int)) = true := by simp; omega
        have hc1 : ¬ c = 1 := by omega
        obtain ⟨n, hn⟩ : ∃ n, n = 257 - d.toNat := ⟨_, rfl⟩
        have hnc : (257 : Int) - (d.toNat : Int) = (n : Int) := by omega
        have hn1 : 2 ≤ n := by omega
        have hn2 : n ≤ 128 := by omega
        rw [← hn]
        generalize d.toNat = dn at c0 hd hq hnc
        clear h1 hlen hsz hn
        go_enter Try.func12, Try.ntmps12
        go_wp2_with fail
        refine (repeat_any _ _ y n _ (by exact HRd.out) hn1 hn2).mono ?_
        rintro e w1 ⟨rfl, hrow, hb1⟩
        have HO1 := Lib.hid (own_below HO.out hb1)
        have HB1 := Lib.hid (Nat.le_trans HB.out hb1.size)
        have HRW := Lib.hid hrow
        have HBL := Lib.hid (hb1.mono HB.out)
        clear hrow hb1
        go_wp2_with (at_builtin; refine wpList_append_bytes rfl _ _ rfl base _ ys.length ys rfl HO1.out (some ⟨w.heap.size, 0, none⟩) n n (List.replicate n y) rfl HRW.out (by simp) (fun h => by cases h) (by omega) HB1.out ?_)
        intro v' w' hown2 hgrow hv
        have HO2 := Lib.hid hown2
        have HG := Lib.hid (HBL.out.trans (grown_below HO1.out hgrow HB1.out))
        clear hown2 hgrow hv
        go_wp2_with fail
        go_ret
        exact ⟨v', rfl, by simpa using HO2.out, HG.out⟩
end Go.Proofs.Ytcgoejijeeeanaa.Pb
