
/- The walk of the law InflateTokens. -/
import Derived.Test.YtmcjhkdcbblnnaaIhF
import Derived.Test.YtmcjhkdcbblnnaaIhD
import Derived.Test.YtmcjhkdcbblnnaaIhV
import Derived.Lib.AppendStr
namespace Go.Proofs.Ytmcjhkdcbblnnaa.Inf
open Go.RowKit Go.Proofs.Ytmcjhkdcbblnnaa.Oct Go.Proofs.Ytmcjhkdcbblnnaa.Bit Go.Proofs.Ytmcjhkdcbblnnaa.Hf
set_option linter.unusedVariables false
set_option linter.unusedSimpArgs false
set_option maxRecDepth 100000

theorem strCells_bs (xs : List UInt8) : Lib.strCells (bs xs) = cellsOf xs := by
  rfl
/-- a text put behind an own row of bytes -/
theorem wpList_append_text8 {w : World} {ops : Array Oper} {rest : List Oper} {o : Oper} {a : Act} {Q : Exit → Act → World → Prop} (hgd : o.guard = none) (s x : Operand)
    (ho : o.op = .call { callee := .builtin .append, args := #[s, x], argTypes := #[22, 9] }) (base : Nat) (v : Value) (n : Nat) (ys xs : List UInt8) (hs : a.eval s = v) (hown : w.ownsRow base 5 1 v n (cellsOf ys)) (hx : a.eval x = .string (bs xs))
    (hl : n + xs.length ≤ 1000000) (hbase : base ≤ w.heap.size)
    (h : ∀ v' w', w'.ownsRow base 5 1 v' (n + xs.length) (cellsOf (ys ++ xs)) → w.grownBy w' v.ownBlock → wpList Try.prog ops Q rest (a.put o.dst v') w') : wpList Try.prog ops Q (o :: rest) a w := by
  obtain ⟨i0, hi, hz0, hz1, hz2⟩ := info_parts Try.infoByte
  refine Lib.wpList_append_own_string w hgd s x 22 9 ho base 5 i0 Try.underlying22 Try.underlying9 hi hz0 hz1 hz2 v n (cellsOf ys) hs hown (bs xs) hx (by rw [bs_size]; unfold maxLen; omega) (by rw [bs_size]; omega) hbase ?_
  intro v' w' h2 h3 _
  rw [bs_size, strCells_bs, ← cellsOf_append] at h2
  exact h v' w' h2 h3
theorem below_own {w0 w w' : World} {C base n : Nat} {v : Value} {xs : List UInt8} (hC : C ≤ base) (hown : w.ownsRow base 5 1 v n (cellsOf xs)) (hb : base ≤ w.heap.size) (h : Below C w0 w) (hg : w.grownBy w' v.ownBlock) : Below C w0 w' :=
  h.grown hg (by omega) (fun k hk => by have := (hown.lt k hk).1; omega)
/-- what an append leaves -/
def AppP (base C : Nat) (w0 : World) (n : Nat) (xs : List UInt8) (g c : Nat) (w' : World) : Prop :=
  w'.ownsRow base 5 1 (.slice (some ⟨g, 0, none⟩) n c) n (cellsOf xs) ∧ Below C w0 w' ∧ base ≤ w'.heap.size ∧ Row w' (some ⟨g, 0, none⟩) xs ∧ g < w'.heap.size
theorem app_b {w w0 : World} {C : Nat} {ops : Array Oper} {rest : List Oper} {o : Oper} {a : Act} {Q : Exit → Act → World → Prop} (hgd : o.guard = none) (s x : Operand)
    (ho : o.op = .call { callee := .builtin .append, args := #[s, x], argTypes := #[22, 22] })
    (base : Nat) (v : Value) (n : Nat) (ys : List UInt8) (hs : a.eval s = v) (hown : w.ownsRow base 5 1 v n (cellsOf ys)) (hv : v ≠ .slice none 0 0)
    (p : Option Addr) (m c : Nat) (xs : List UInt8) (hx : a.eval x = .slice p m c) (hr : Row w p xs) (hxm : xs.length = m) (hc0 : p = none → c = 0)
    (h47 : n + m ≤ 140737488355328) (hbase : base ≤ w.heap.size) (hC : C ≤ base) (hb0 : Below C w0 w) (N : Nat) (zs : List UInt8) (hN : n + m = N) (hzs : ys ++ xs = zs)
    (h : ∀ g c' w', N ≤ c' → c' ≤ maxLen → AppP base C w0 N zs g c' w' → wpList Try.prog ops Q rest (a.put o.dst (.slice (some ⟨g, 0, none⟩) N c')) w') :
    wpList Try.prog ops Q (o :: rest) a w := by
  subst hN hzs
  refine wpList_append_bytes hgd s x ho base v n ys hs hown p m c xs hx hr hxm hc0 h47 hbase ?_
  intro v' w' h1 h2 h3
  obtain ⟨g, c', rfl, q1, q2, q3, q4, q5⟩ := own_form h1 (h3 hv)
  exact h g c' w' q1 q2 ⟨h1, below_own hC hown hbase hb0 h2, by omega, q5, q4⟩
theorem app_t {w w0 : World} {C : Nat} {ops : Array Oper} {rest : List Oper} {o : Oper} {a : Act} {Q : Exit → Act → World → Prop} (hgd : o.guard = none) (s x : Operand)
    (ho : o.op = .call { callee := .builtin .append, args := #[s, x], argTypes := #[22, 9] })
    (base : Nat) (v : Value) (n : Nat) (ys xs : List UInt8) (hs : a.eval s = v) (hown : w.ownsRow base 5 1 v n (cellsOf ys)) (hx : a.eval x = .string (bs xs))
    (hl : n + xs.length ≤ 1000000) (hx0 : 0 < xs.length) (hbase : base ≤ w.heap.size) (hC : C ≤ base) (hb0 : Below C w0 w) (N : Nat) (zs : List UInt8) (hN : n + xs.length = N) (hzs : ys ++ xs = zs)
    (h : ∀ g c' w', N ≤ c' → c' ≤ maxLen → AppP base C w0 N zs g c' w' → wpList Try.prog ops Q rest (a.put o.dst (.slice (some ⟨g, 0, none⟩) N c')) w') : wpList Try.prog ops Q (o :: rest) a w := by
  subst hN hzs
  refine wpList_append_text8 hgd s x ho base v n ys xs hs hown hx hl hbase ?_
  intro v' w' h1 h2
  obtain ⟨g, c', rfl, q1, q2, q3, q4, q5⟩ := own_form h1 (by
    rintro rfl
    have := h1.1
    rcases h1.2 with ⟨_, h0⟩ | ⟨g, cap, cur, he, _⟩
    · omega
    · cases he)
  exact h g c' w' q1 q2 ⟨h1, below_own hC hown hbase hb0 h2, by omega, q5, q4⟩
/-- a row just made is the call's own -/
theorem own_made {w : World} (base : Nat) (xs : List UInt8) (hb : base ≤ w.heap.size) (hl : xs.length ≤ 1000) :
    (w.alloc (.cells (cellsOf xs).toArray 5)).ownsRow base 5 1 (.slice (some ⟨w.heap.size, 0, none⟩) xs.length xs.length) xs.length (cellsOf xs) :=
  ⟨by rw [cellsOf_length, Nat.mul_one], .inr ⟨w.heap.size, xs.length, (cellsOf xs).toArray, rfl, hb, Array.getElem?_push_size, Nat.le_refl _, by unfold maxLen; omega, by simp [cellsOf_length], by
    rw [Nat.mul_one]
    exact List.take_of_length_le (by rw [cellsOf_length]; omega)⟩⟩
/-- an own row's form, and where it was before -/
theorem own_row9 {w w' : World} {base n : Nat} {v v' : Value} {xs : List UInt8} (hown : w'.ownsRow base 5 1 v' n (cellsOf xs)) (hn : xs.length = n) : ∃ q c, v' = .slice q n c ∧ (q = none → c = 0) ∧ n ≤ c ∧ c ≤ maxLen ∧ Row w' q xs := own_shape hown hn
theorem inf_ok {w w' : World} {xs o : List UInt8} {most : Int} {e : Ending} {k n : Nat} (h : InfP w xs most e w') (hz : infZ xs most = .ok (o, k)) (hn : o.length = n) :
    Below w.heap.size w w' ∧ ∃ q c, e = .returned (.tuple #[.slice q n c, .int .i64 (k : Int), .int .i64 0]) ∧ Row w' q o ∧ (q = none → c = 0) ∧ n ≤ c ∧ c ≤ maxLen := by
  subst hn
  rcases h.2 with ⟨o', k', q, c, h1, h2, h3, h4, h5, h6, _⟩ | ⟨c, h1, _⟩
  · rw [hz] at h1
    cases h1
    exact ⟨h.1, q, c, h2, h3, h4, h5, h6⟩
  · rw [hz] at h1; cases h1
theorem inf_err {w w' : World} {xs : List UInt8} {most : Int} {e : Ending} {c : Nat} (h : InfP w xs most e w') (hz : infZ xs most = .error c) :
    Below w.heap.size w w' ∧ e = .returned (.tuple #[.slice none 0 0, .int .i64 0, .int .i64 (c : Int)]) := by
  rcases h.2 with ⟨o', k', q, c', h1, _⟩ | ⟨c', h1, _, h2⟩
  · rw [hz] at h1; cases h1
  · rw [hz] at h1
    cases h1
    exact ⟨h.1, h2⟩
theorem head_is (n : Nat) (h : n ≤ 200) : cellsOf (headX n) = [.int .u8 0, .int .u8 (n : Int), .int .u8 0, .int .u8 (255 - (n : Int)), .int .u8 255] := by
  have e1 : (UInt8.ofNat n).toNat = n := by rw [UInt8.toNat_ofNat']; omega
  have e2 : (UInt8.ofNat (n / 256)).toNat = 0 := by rw [UInt8.toNat_ofNat']; omega
  have e3 : ((UInt8.ofNat (65535 - n)).toNat : Int) = 255 - (n : Int) := by rw [UInt8.toNat_ofNat']; omega
  have e4 : (UInt8.ofNat ((65535 - n) / 256)).toNat = 255 := by rw [UInt8.toNat_ofNat']; omega
  simp only [cellsOf, headX, List.map_cons, List.map_nil, e1, e2, e3, e4]
  rfl
theorem xor_i64 (n : Nat) (h : n ≤ 200) : bits .xor .i64 (-1) (n : Int) = -(n : Int) - 1 := by
  show IntKind.i64.wrap ((BitVec.ofInt 64 (-1) ^^^ BitVec.ofInt 64 (n : Int)).toNat : Int) = _
  have e : (BitVec.ofInt 64 (-1) ^^^ BitVec.ofInt 64 (n : Int)).toNat = 18446744073709551615 - n := by
    have h1 : BitVec.ofInt 64 (-1) = BitVec.allOnes 64 := by decide
    have h2 : BitVec.ofInt 64 (n : Int) = BitVec.ofNat 64 n := BitVec.ofInt_natCast 64 n
    rw [h1, h2, BitVec.allOnes_xor, BitVec.toNat_not, BitVec.toNat_ofNat]
    omega
  rw [e, IntKind.wrap_i64]
  omega
theorem fixA_len : ∀ m ∈ canonW fixedA, m.length ≤ 30 := by
  intro m hm
  obtain ⟨i, hi⟩ := List.mem_iff_getElem?.1 hm
  obtain ⟨hi', rfl⟩ := List.getElem?_eq_some_iff.1 hi
  have h2 : i < fixedA.length := by rwa [canonW_length] at hi'
  rw [canonW_len fixedA i hi' h2]
  exact fixedA_max _ (List.getElem_mem h2)
theorem fixB_len : ∀ m ∈ canonW fixedB, m.length ≤ 30 := by
  intro m hm
  obtain ⟨i, hi⟩ := List.mem_iff_getElem?.1 hm
  obtain ⟨hi', rfl⟩ := List.getElem?_eq_some_iff.1 hi
  have h2 : i < fixedB.length := by rwa [canonW_length] at hi'
  rw [canonW_len fixedB i hi' h2]
  exact fixedB_max _ (List.getElem_mem h2)
theorem wordsX_A : wordsX fixedA false false = .ok (canonW fixedA) := by
  unfold wordsX
  rw [if_pos (Nat.le_of_eq fixedA_start), if_neg (by rintro ⟨h, _⟩; cases h)]
theorem wordsX_B : wordsX fixedB false false = .ok (canonW fixedB) := by
  unfold wordsX
  rw [if_pos fixedB_start, if_neg (by rintro ⟨h, _⟩; cases h)]
theorem text_fix (l : List Tok) : (Value.string ({ data := #[49, 49, 48] } ++ ds (toldB (canonW fixedA) (canonW fixedB) l))) = .string (ds (fixT l)) := by
  have h1 : ({ data := #[49, 49, 48] } : ByteArray) = ds [true, true, false] := rfl
  rw [h1, ds_append]
  rfl
theorem toks_keep {w w' : World} {a : Option Addr} {l : List Tok} (h : Toks w w.heap.size a l) (hb : Below w.heap.size w w') : Toks w' w'.heap.size a l := by
  have h1 := h.below hb (Nat.le_refl _)
  exact ⟨h1.1, fun hp => by
    obtain ⟨b, off, e, hlt, hc⟩ := h1.2 hp
    exact ⟨b, off, e, Nat.lt_of_lt_of_le hlt hb.size, hc⟩⟩
theorem rows_keep {w w' : World} {q : Option Addr} {xs : List UInt8} (h : Row w q xs) (hb : Below w.heap.size w w') : Row w' q xs := h.below hb
set_option maxHeartbeats 8000000 in
theorem tokens_walk (a : Option Addr) (len cap : Nat) (p : Option Addr) (len1 cap1 : Nat) (zs : List Int) (at_ : Int) (w : World)
    (hT : IsToks w a len cap) (hr0 : IsRow .u8 w p len1 cap1 zs) (hw0 : (Lit.int .i64 at_).wf = true) :
    Calls Try.prog 5 #[.slice a len cap, .slice p len1 cap1, .int .i64 at_] w fun e w' => e = .returned (.bool true) ∧ Below w.heap.size w w' := by
  obtain ⟨ahead, hx, hr, hlc, hcm, hnil⟩ := hr0.row
  obtain ⟨hlc2, hcm2, l, hl, htk⟩ := hT
  clear hr0
  unfold maxLen at hcm hcm2
  have hb64 := bounds_i64 hw0
  clear hw0
  by_cases hbig : len ≤ 200 ∧ len1 ≤ 200
  · obtain ⟨hl200, hn200⟩ := hbig
    have q1 : decide (200 < (len : Int)) = false := by simp; omega
    have q2 : decide (200 < (len1 : Int)) = false := by simp; omega
    have HR := Lib.hid hr
    have HX := Lib.hid hx
    have HL := Lib.hid hl
    have HT := Lib.hid htk
    have HNIL := Lib.hid hnil
    clear hr hx hl htk hnil
    go_enter Try.func5, Try.ntmps5
    go_wp2_with fail
    refine (lives_any w).mono ?_
    rintro e w1 ⟨rfl, hb1⟩
    have HB1 := Lib.hid hb1
    have HRI := Lib.hid (right_any a len cap l w1 HL.out hl200 ((HT.out.below hb1 (Nat.le_refl _)) |> fun h => ⟨h.1, fun hp => by
      obtain ⟨b, off, e, hlt, hc⟩ := h.2 hp
      exact ⟨b, off, e, Nat.lt_of_lt_of_le hlt hb1.size, hc⟩⟩))
    clear hb1
    go_wp2_with fail
    refine HRI.out.mono ?_
    rintro e w2 ⟨hb2, hres⟩
    have HB2 := Lib.hid (HB1.out.trans (hb2.mono HB1.out.size))
    rcases hres with ⟨want, hwant, hwl, rfl⟩ | ⟨hnone, rfl⟩
    case inr =>
      clear hb2 hnone
      go_wp2_with fail
      go_ret
      exact ⟨rfl, HB2.out⟩
    case inl =>
      have HW := Lib.hid hwant
      have hall := right_all l [] want hwant
      have HALL := Lib.hid hall
      clear hb2 hwant hall HRI
      go_wp2_with fail
      refine (fixed_any w2).mono ?_
      rintro e w3 ⟨hb3, qx, cx, qy, cy, rfl, hqx, hqx0, hqy, hqy0⟩
      have HB3 := Lib.hid (HB2.out.trans (hb3.mono HB2.out.size))
      have HWA := Lib.hid (words_any qx cx 288 fixedA false false w3 hqx (by decide) fixedA_max (by omega))
      have HQY := Lib.hid hqy
      clear hb3 hqx hqx0 hqy hqy0
      go_wp2_with fail
      refine HWA.out.mono ?_
      rintro e w4 ⟨hb4, hres⟩
      rw [wordsX_A] at hres
      rcases hres with ⟨qa, ca, _, rfl, hva, hqa0⟩ | ⟨hno, _⟩
      case inr => cases hno
      have HB4 := Lib.hid (HB3.out.trans (hb4.mono HB3.out.size))
      have HVA := Lib.hid hva
      have HWB := Lib.hid (words_any qy cy 30 fixedB false false w4 ((HQY.out.below hb4 (Nat.le_refl _)).mono hb4.size) (by decide) fixedB_max (by omega))
      clear hb4 hva hqa0 HQY
      have e288 : fixedA.length = 288 := by decide
      rw [e288]
      clear e288
      go_wp2_with fail
      refine HWB.out.mono ?_
      rintro e w5 ⟨hb5, hres⟩
      rw [wordsX_B] at hres
      rcases hres with ⟨qb, cb, _, rfl, hvb, hqb0⟩ | ⟨hno, _⟩
      case inr => cases hno
      have HB5 := Lib.hid (HB4.out.trans (hb5.mono HB4.out.size))
      have HVA5 := Lib.hid ((HVA.out.below hb5 (Nat.le_refl _)).mono hb5.size)
      have HVB := Lib.hid hvb
      have e30 : fixedB.length = 30 := by decide
      rw [e30]
      clear hb5 hvb hqb0 e30 HWA HWB
      have x1 := xor_i64 len1 hn200
      have x8 : bits .xor .i64 (if IntKind.i64.signed = true then -1 else 9223372036854775807) (len1 : Int) = -(len1 : Int) - 1 := xor_i64 len1 hn200
      have x2 : (-(len1 : Int) - 1) / 256 = -1 := by omega
      have x3 : (len1 : Int) / 256 = 0 := by omega
      have x4 : IntKind.u8.wrap (-(len1 : Int) - 1) = 255 - (len1 : Int) := by rw [IntKind.wrap_u8]; omega
      have x5 : IntKind.u8.wrap (-1) = 255 := by decide
      have x6 : IntKind.u8.wrap (len1 : Int) = (len1 : Int) := by rw [IntKind.wrap_u8]; omega
      have x7 : (-(len1 : Int) - 1) % 256 = 255 - (len1 : Int) := by omega
      have he5 : (cellsOf (headX len1)).toArray = #[.int .u8 0, .int .u8 (len1 : Int), .int .u8 0, .int .u8 (255 - (len1 : Int)), .int .u8 255] := by rw [head_is _ hn200]
      have hlit := own_made (w := w5) w5.heap.size (headX len1) (Nat.le_refl _) (by show 5 ≤ 1000; omega)
      rw [he5] at hlit
      have HLIT := Lib.hid hlit
      have hbl := HB5.out.alloc HB5.out.size (.cells (cellsOf (headX len1)).toArray 5)
      rw [he5] at hbl
      have HR5 := Lib.hid (HR.out.below hbl)
      have hbl5 := (Below.refl w5.heap.size w5).alloc (Nat.le_refl _) (.cells (cellsOf (headX len1)).toArray 5)
      rw [he5] at hbl5
      have HBL := Lib.hid hbl5
      obtain ⟨n1, hn1⟩ : ∃ n1, 5 + len1 = n1 := ⟨_, rfl⟩
      have hn1b : n1 ≤ 205 := by omega
      have HN1 := Lib.hid hn1
      clear hlit hbl hbl5 he5 hn1
      go_wp2_with (at_builtin; refine app_b (w0 := w5) (C := w5.heap.size) rfl _ _ rfl w5.heap.size _ 5 (headX len1) rfl HLIT.out (fun h => by cases h) p len1 cap1 ahead rfl HR5.out HX.out HNIL.out (by omega) (by simp) (Nat.le_refl _) HBL.out n1 (headX len1 ++ ahead) HN1.out rfl ?_; intro g1 c1 w6 hc1 hc1m hap; have HAP1 := Lib.hid hap; clear hap)
      have HB6 := Lib.hid (HB5.out.trans (HAP1.out.2.1.mono HB5.out.size))
      have HTO := Lib.hid (told_any a qa qb len cap ca cb 288 30 l (canonW fixedA) (canonW fixedB) w6 HL.out hl200 (toks_keep HT.out HB6.out) ((HVA5.out.below HAP1.out.2.1 (Nat.le_refl _)).mono HAP1.out.2.1.size) ((HVB.out.below HAP1.out.2.1 (Nat.le_refl _)).mono HAP1.out.2.1.size) (by rw [canonW_length]; rfl) (by rw [canonW_length]; rfl) (by omega) rfl fixA_len fixB_len HALL.out)
      clear HLIT HR5 HBL x1 x2 x3 x4 x5 x6 x7 x8
      refine HTO.out.mono ?_
      rintro e w7 ⟨rfl, htl, hb7⟩
      have hfl : (fixT l).length ≤ 100 * len + 33 := by
        have : (fixT l).length = 3 + (toldB (canonW fixedA) (canonW fixedB) l).length := by simp [fixT]; omega
        omega
      have HBY := Lib.hid (rbytes_any (fixT l) true w7 (by omega))
      have HPL := Lib.hid (packB_length true (fixT l))
      have HF3 : Hid (3 ≤ (fixT l).length) := Lib.hid (by simp [fixT])
      have hsz3 : (ds (toldB (canonW fixedA) (canonW fixedB) l)).size ≤ 100 * len + 30 := by rw [ds_size]; exact htl
      have HB67 := Lib.hid hb7
      clear hb7 HTO htl
      go_wp2_with fail
      rw [text_fix]
      refine HBY.out.mono ?_
      rintro e w8 ⟨rfl, hb8⟩
      have HB68 := Lib.hid (HB67.out.trans (hb8.mono HB67.out.size))
      have HB8 := Lib.hid (HB6.out.trans (HB68.out.mono HB6.out.size))
      have hwl2 : want.length ≤ 2458 := by have := HL.out; omega
      have HALLI := Lib.hid (tokens_all (l := l) (ahead := ahead) (want := want) (lim := 2000) (most := 100000) (by rw [HX.out]; omega) HW.out (by rw [HX.out]; omega))
      have hwx : (headX len1 ++ ahead) ++ packB true (fixT l) = wholeX ahead l := by rw [wholeX, HX.out, List.append_assoc]
      have hp := HPL.out
      have hf3 := HF3.out
      obtain ⟨X, hX⟩ : ∃ X, packB true (fixT l) = X := ⟨_, rfl⟩
      obtain ⟨T, hT⟩ : ∃ T, X.length = T := ⟨_, rfl⟩
      rw [hX] at hp hwx ⊢
      rw [hT] at hp
      have hT1 : 0 < T := by omega
      have hT2 : T ≤ 3000 := by omega
      obtain ⟨N2, hN2⟩ : ∃ N2, n1 + T = N2 := ⟨_, rfl⟩
      have hN2b : N2 ≤ 4000 := by omega
      have hN20 : 0 < N2 := by omega
      have HT1 := Lib.hid hT
      have HN2 := Lib.hid hN2
      have HWX := Lib.hid hwx
      have hWL : (wholeX ahead l).length = N2 := by
        rw [← hwx, List.length_append, List.length_append, HX.out, hT, ← hN2, ← HN1.out]; rfl
      have HWL := Lib.hid hWL
      obtain ⟨Z, hZ⟩ : ∃ Z, wholeX ahead l = Z := ⟨_, rfl⟩
      rw [hZ] at HWX HWL HALLI
      obtain ⟨O, hO⟩ : ∃ O, ahead ++ want = O := ⟨_, rfl⟩
      have hcat : bs ahead ++ bs want = bs O := by rw [← hO, bs_append]
      rw [hO] at HALLI
      obtain ⟨nO, hnO⟩ : ∃ nO, O.length = nO := ⟨_, rfl⟩
      have hnOb : nO ≤ 4000 := by rw [← hnO, ← hO, List.length_append, HX.out]; omega
      have HNO := Lib.hid hnO
      have hown := World.ownsRow_made (base := w8.heap.size) (e := 5) (size := 1) w8 #[] 0 (Nat.le_refl _) (by simp [maxLen]) rfl
      have HOWN := Lib.hid hown
      have hbA : Below w8.heap.size w8 (w8.alloc (.cells #[] 5)) := (Below.refl _ w8).alloc (Nat.le_refl _) _
      have HBA := Lib.hid hbA
      have HRA := Lib.hid ((HAP1.out.2.2.2.1.below HB68.out).below hbA)
      have hHL : (headX len1 ++ ahead).length = n1 := by rw [List.length_append, HX.out, ← HN1.out]; rfl
      have HHL := Lib.hid hHL
      clear hb8 hwx hp hf3 hX hT hN2 hWL hZ hO hnO hown hbA hHL HBY HF3 HPL hfl
      go_upto_region 15 with (at_builtin; first
        | (refine app_b (w0 := w8) (C := w8.heap.size) rfl _ _ rfl w8.heap.size _ 0 [] rfl HOWN.out (fun h => by cases h) (some ⟨g1, 0, none⟩) n1 c1 (headX len1 ++ ahead) rfl HRA.out HHL.out (fun h => by cases h) (by omega) HBA.out.size (Nat.le_refl _) HBA.out n1 (headX len1 ++ ahead) (Nat.zero_add _) rfl ?_; intro g2 c2 w9 hc2 hc2m hap; have HAP2 := Lib.hid hap; clear hap)
        | (refine app_t (w0 := w8) (C := w8.heap.size) rfl _ _ rfl w8.heap.size _ n1 (headX len1 ++ ahead) X rfl HAP2.out.1 rfl (by rw [HT1.out]; omega) (by rw [HT1.out]; omega) HAP2.out.2.2.1 (Nat.le_refl _) HAP2.out.2.1 N2 Z (by rw [HT1.out]; exact HN2.out) HWX.out ?_; intro g3 c3 w10 hc3 hc3m hap; have HAP3 := Lib.hid hap; clear hap))
      have HB810 := Lib.hid HAP3.out.2.1
      have HB10 := Lib.hid (HB8.out.trans (HB810.out.mono HB8.out.size))
      have hown := World.ownsRow_made (base := w10.heap.size) (e := 5) (size := 1) w10 #[] 0 (Nat.le_refl _) (by simp [maxLen]) rfl
      have HOWN := Lib.hid hown
      have hbA : Below w10.heap.size w10 (w10.alloc (.cells #[] 5)) := (Below.refl _ w10).alloc (Nat.le_refl _) _
      have HBA := Lib.hid hbA
      have HRA := Lib.hid (HAP3.out.2.2.2.1.below hbA)
      have hbL : ∀ V : World, Below V.heap.size V (V.alloc (.cells #[.int .u8 7, .int .u8 8] 5)) := fun V => (Below.refl _ V).alloc (Nat.le_refl _) _
      have HBL := Lib.hid hbL
      obtain ⟨N3, hN3⟩ : ∃ N3, N2 + 2 = N3 := ⟨_, rfl⟩
      have hN3b : N3 ≤ 5000 := by omega
      have HN3 := Lib.hid hN3
      clear hown hbA hbL hN3
      unfold maxLen at hc3m
      go_wp2_with (at_builtin; first
        | (refine app_b (w0 := w10) (C := w10.heap.size) rfl _ _ rfl w10.heap.size _ 0 [] rfl HOWN.out (fun h => by cases h) (some ⟨g3, 0, none⟩) N2 c3 Z rfl HRA.out HWL.out (fun h => by cases h) (by omega) HBA.out.size (Nat.le_refl _) HBA.out N2 Z (Nat.zero_add _) rfl ?_; intro g4 c4 w11 hc4 hc4m hap; have HAP4 := Lib.hid hap; have HO4 := Lib.hid (own_below hap.1 (HBL.out w11)); have HB4L := Lib.hid (hap.2.1.trans ((HBL.out w11).mono hap.2.1.size)); have HR78 := Lib.hid (row_new9 w11 [7, 8] 5 (0, 0)); clear hap)
        | (refine app_b (w0 := w10) (C := w10.heap.size) rfl _ _ rfl w10.heap.size _ N2 Z rfl HO4.out (fun h => by cases h) (some ⟨w11.heap.size, 0, none⟩) 2 2 [7, 8] rfl HR78.out rfl (fun h => by cases h) (by omega) HB4L.out.size (Nat.le_refl _) HB4L.out N3 (Z ++ [7, 8]) HN3.out rfl ?_; intro g5 c5 w12 hc5 hc5m hap; have HAP5 := Lib.hid hap; clear hap))
      have HZ1 : Hid (infZ (Z ++ [7, 8]) 100000 = .ok (O, N2)) := Lib.hid (by
        unfold infZ
        rw [if_neg (by decide), ← HWL.out]
        exact HALLI.out.1 [7, 8])
      refine (inflate_any (some ⟨g5, 0, none⟩) N3 c5 (Z ++ [7, 8]) 100000 w12 HAP5.out.2.2.2.1 (by rw [List.length_append, HWL.out, ← HN3.out]; rfl) (fun h => by cases h) (by omega) (by omega)).mono ?_
      rintro e w13 hres
      obtain ⟨hb13, q9, c9, rfl, hrow9, hq9, hc9, hc9m⟩ := inf_ok hres HZ1.out HNO.out
      have HB1013 := Lib.hid (HAP5.out.2.1.trans (hb13.mono HAP5.out.2.1.size))
      have HB13 := Lib.hid (HB10.out.trans (HB1013.out.mono HB10.out.size))
      have hcv1 := conv_row nO c9 hrow9 HNO.out
      have hcv2 := conv_row len1 cap1 (HR.out.below HB13.out) HX.out
      have hRZ := HAP3.out.2.2.2.1.below HB1013.out
      have HRZ := Lib.hid hRZ
      obtain ⟨j, hj⟩ : ∃ j, j = spot at_ N2 := ⟨_, rfl⟩
      have hsp := spot_lt at_ N2 hN20
      have hsc := spot_cast at_ N2
      rw [← hj] at hsp hsc
      have hsl := fun W => head_run W (some ⟨g3, 0, none⟩) N2 c3 j (by omega)
      have HZ2 : Hid (infZ (Z.take j) 100000 = .error 2) := Lib.hid (by
        unfold infZ
        rw [if_neg (by decide)]
        exact HALLI.out.2.1 j (by rw [HWL.out]; exact hsp))
      have HI2 := Lib.hid (inflate_any (headA (some ⟨g3, 0, none⟩) c3) j c3 (Z.take j) 100000 w13 (head_row c3 j hRZ) (by rw [List.length_take, HWL.out]; omega) (fun h => by
        unfold headA at h
        split at h <;> cases h) (by omega) (by omega))
      have i1 : (0 : Int) ≤ (N2 : Int) := by omega
      have i2 : ((N2 : Nat) : Int) ≠ 0 := by omega
      have i3 : (0 : Int) ≤ (j : Int) := by omega
      have i4 : (j : Int) < (N2 : Int) := by omega
      have i5 : (j : Int) ≤ (c3 : Int) := by omega
      have hsza : (bs ahead).size ≤ 200 := by rw [bs_size, HX.out]; omega
      have hszw : (bs want).size ≤ 2458 := by rw [bs_size]; omega
      clear hres hb13 hrow9 HAP1 HAP5 HOWN HBA HRA HBL HWX HVA5 HVB HVA hj hRZ
      go_wp2_with fail
      refine HI2.out.mono ?_
      rintro e w14 hres
      obtain ⟨hb14, rfl⟩ := inf_err hres HZ2.out
      have HB14 := Lib.hid (HB13.out.trans (hb14.mono HB13.out.size))
      have HRZ4 := Lib.hid (HRZ.out.below hb14)
      clear hres hb14 HI2 hsl hsp hsc i1 i2 i3 i4 i5
      rcases Nat.eq_zero_or_pos nO with h0 | h0
      · subst h0
        have HZ3 : Hid (infZ Z (-1) = .error 1) := Lib.hid (by unfold infZ; rw [if_pos (by decide)])
        have HI3 := Lib.hid (inflate_any (some ⟨g3, 0, none⟩) N2 c3 Z (-1) w14 HRZ4.out HWL.out (fun h => by cases h) (by omega) (by omega))
        go_wp2_with fail
        refine HI3.out.mono ?_
        rintro e w15 hres
        obtain ⟨hb15, rfl⟩ := inf_err hres HZ3.out
        have HB15 := Lib.hid (HB14.out.trans (hb15.mono HB14.out.size))
        clear hres hb15 HI3
        go_wp2_with fail
        go_ret
        exact ⟨rfl, HB15.out⟩
      · obtain ⟨m, hm⟩ : ∃ m, nO = m + 1 := ⟨nO - 1, by omega⟩
        have hm1 : (nO : Int) - 1 = (m : Int) := by omega
        have HZ3 : Hid (infZ Z (m : Int) = .error 8) := Lib.hid (by
          unfold infZ
          rw [if_neg (by omega)]
          exact HALLI.out.2.2 m (by rw [HNO.out]; omega))
        have HI3 := Lib.hid (inflate_any (some ⟨g3, 0, none⟩) N2 c3 Z (m : Int) w14 HRZ4.out HWL.out (fun h => by cases h) (by omega) (by omega))
        have d1 : ((nO : Int) == 0) = false := by simp; omega
        have d2 : decide ((0 : Int) < (nO : Int)) = true := by simp; omega
        have d3 : decide (0 < nO) = true := by simp; omega
        have d4 : (nO == 0) = false := by simp; omega
        clear hm h0
        go_wp2_with fail
        refine HI3.out.mono ?_
        rintro e w15 hres
        obtain ⟨hb15, rfl⟩ := inf_err hres HZ3.out
        have HB15 := Lib.hid (HB14.out.trans (hb15.mono HB14.out.size))
        clear hres hb15 HI3
        go_wp2_with fail
        go_ret
        exact ⟨rfl, HB15.out⟩
  · clear hr hx hl htk hnil
    go_enter Try.func5, Try.ntmps5
    go_wp2_with fail
    refine (lives_any w).mono ?_
    rintro e w1 ⟨rfl, hb1⟩
    have HB1 := Lib.hid hb1
    clear hb1
    by_cases h1 : len ≤ 200
    · have q1 : decide (200 < (len : Int)) = false := by simp; omega
      have q2 : decide (200 < (len1 : Int)) = true := by simp; omega
      clear hbig h1
      go_wp2_with fail
      refine (lives_any w1).mono ?_
      rintro e w2 ⟨rfl, hb2⟩
      have HB2 := Lib.hid (HB1.out.trans (hb2.mono HB1.out.size))
      clear hb2
      go_wp2_with fail
      go_ret
      exact ⟨rfl, HB2.out⟩
    · have q1 : decide (200 < (len : Int)) = true := by simp; omega
      clear hbig h1
      go_wp2_with fail
      refine (lives_any w1).mono ?_
      rintro e w2 ⟨rfl, hb2⟩
      have HB2 := Lib.hid (HB1.out.trans (hb2.mono HB1.out.size))
      clear hb2
      go_wp2_with fail
      go_ret
      exact ⟨rfl, HB2.out⟩
end Go.Proofs.Ytmcjhkdcbblnnaa.Inf
