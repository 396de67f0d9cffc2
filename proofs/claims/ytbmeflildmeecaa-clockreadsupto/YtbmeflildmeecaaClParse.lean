/- Parse (31): digits to bytes, Read, and Text held against what came. -/
import Derived.Laws.OwnMore
import Derived.Test.YtbmeflildmeecaaClRead
namespace Go.Proofs.Ytbmeflildmeecaa
open Go.RowKit Go.Shelf Go.Sort Go.Lib Pk

def digI (y : UInt8) : Int := IntKind.u8.wrap (Lib.indexByte hexD.data.toList y)
set_option maxHeartbeats 1000000 in
theorem digit_any (y : UInt8) (w : World) : Calls Try.prog 50 #[.int .u8 (y.toNat : Int)] w fun e w' => e = .returned (.int .u8 (digI y)) ∧ w' = w := by
  have h66 := Try.strings_IndexByte ⟨#[48, 49, 50, 51, 52, 53, 54, 55, 56, 57, 97, 98, 99, 100, 101, 102]⟩ (y.toNat : Int) w
  have e : (y.toNat : Int).toNat.toUInt8 = y := by simp
  rw [e] at h66
  unfold digI
  have h66' : Calls Try.prog 66 #[.string ⟨#[48, 49, 50, 51, 52, 53, 54, 55, 56, 57, 97, 98, 99, 100, 101, 102]⟩, .int .u8 (y.toNat : Int)] w fun e w' => e = .returned (.int .i64 (Lib.indexByte hexD.data.toList y)) ∧ w' = w := h66
  clear h66
  generalize Lib.indexByte hexD.data.toList y = r at *
  go_enter Try.func50, Try.ntmps50
  go_wp2_with (go_at_call 66; refine h66'.mono ?_; rintro e w' ⟨rfl, rfl⟩)
  go_ret
  exact ⟨rfl, rfl⟩

theorem or_u8 (a b : Nat) (ha : a < 256) (hb : b < 256) : bits .or .u8 (a : Int) (b : Int) = ((a ||| b : Nat) : Int) := by
  show IntKind.u8.wrap ((BitVec.ofInt 8 (a : Int) ||| BitVec.ofInt 8 (b : Int)).toNat : Int) = _
  rw [BitVec.toNat_or, ofInt_nat 8 a ha, ofInt_nat 8 b hb, wrap_u8]
  have : a ||| b < 2 ^ 8 := Nat.or_lt_two_pow ha hb
  omega
theorem digI_nat (y : UInt8) : ∃ a : Nat, a < 256 ∧ digI y = (a : Int) := by
  unfold digI
  rw [wrap_u8]
  exact ⟨(Lib.indexByte hexD.data.toList y % 256).toNat, by omega, by omega⟩
def nibI (y1 y2 : UInt8) : Int := bits .or .u8 (IntKind.u8.wrap (digI y1 * 16)) (digI y2)
def nib (y1 y2 : UInt8) : UInt8 := UInt8.ofNat (nibI y1 y2).toNat
theorem byteV_nib (y1 y2 : UInt8) : byteV (nib y1 y2) = .int .u8 (nibI y1 y2) := by
  obtain ⟨a, ha, ea⟩ := digI_nat y1
  obtain ⟨b, hb, eb⟩ := digI_nat y2
  have h : nibI y1 y2 = (((a * 16 % 256) ||| b : Nat) : Int) := by
    unfold nibI
    rw [ea, eb, wrap_u8, show ((a : Int) * 16) % 256 = ((a * 16 % 256 : Nat) : Int) by omega, or_u8 _ _ (by omega) hb]
  have hlt : (a * 16 % 256) ||| b < 256 := Nat.or_lt_two_pow (n := 8) (by omega) hb
  unfold nib
  rw [byteV_ofNat, h]
  congr 1
  omega
theorem dig_hex : ∀ n : Fin 16, digI (hexAt n.1) = (n.1 : Int) := by decide
theorem or_nib : ∀ a b : Fin 16, (a.1 * 16 % 256 ||| b.1) = a.1 * 16 + b.1 := by decide
theorem nib_hexN (n : Fin 256) : nibI (hexAt (n.1 / 16)) (hexAt (n.1 % 16)) = (n.1 : Int) := by
  obtain ⟨n, hn⟩ := n
  have h1 := dig_hex ⟨n / 16, by omega⟩
  have h2 := dig_hex ⟨n % 16, by omega⟩
  have h3 := or_nib ⟨n / 16, by omega⟩ ⟨n % 16, by omega⟩
  dsimp only at h1 h2 h3 ⊢
  unfold nibI
  rw [h1, h2, wrap_u8, show ((n / 16 : Nat) : Int) * 16 % 256 = ((n / 16 * 16 % 256 : Nat) : Int) by omega, or_u8 _ _ (by omega) (by omega), h3]
  omega
theorem nib_hex (y : UInt8) : nib (hexAt (y.toNat / 16)) (hexAt (y.toNat % 16)) = y := by
  have := nib_hexN ⟨y.toNat, y.toNat_lt⟩
  unfold nib
  rw [this]
  simp
def parB : List UInt8 → List UInt8
  | y1 :: y2 :: r => nib y1 y2 :: parB r
  | _ => []
theorem parB_hex (l : List UInt8) : parB (l.flatMap hexB) = l := by
  induction l with
  | nil => rfl
  | cons y l ih =>
    show nib (hexAt (y.toNat / 16)) (hexAt (y.toNat % 16)) :: parB (l.flatMap hexB) = _
    rw [ih, nib_hex]
theorem parB_len : ∀ l : List UInt8, (parB l).length = l.length / 2
  | [] => by simp [parB]
  | [_] => by simp [parB]
  | _ :: _ :: r => by
    show (parB r).length + 1 = (r.length + 1 + 1) / 2
    rw [parB_len r]; omega
theorem parB_at : ∀ (l : List UInt8) (k : Nat) (y1 y2 : UInt8), l[2 * k]? = some y1 → l[2 * k + 1]? = some y2 → (parB l)[k]? = some (nib y1 y2)
  | [], k, _, _, h, _ => by simp at h
  | [_], k, _, _, _, h => by simp at h
  | a :: b :: r, k, y1, y2, h1, h2 => by
    cases k with
    | zero => simp at h1 h2; subst h1; subst h2; rfl
    | succ k =>
      rw [show 2 * (k + 1) = 2 * k + 1 + 1 by omega] at h1 h2
      exact parB_at r k y1 y2 h1 h2

theorem rdV_fit (s : ByteArray) : Fit (rdV s) := by
  unfold rdV
  split
  · exact readL_fit s
  · intro d hd; cases hd
theorem rdV_len (s : ByteArray) : (rdV s).length ≤ s.size := by
  unfold rdV
  split
  · exact readL_len s
  · exact Nat.zero_le _
/-- What Parse reads, and tells. -/
def psB (t : ByteArray) : ByteArray := strL (parB t.data.toList)
def psOk (t : ByteArray) : Bool := decide (strL (textC (rdV (psB t))) = t)
def psV (t : ByteArray) : List Dt := if psOk t then rdV (psB t) else []
def psE (t : ByteArray) : Int := if psOk t then 0 else 31
theorem psB_size (t : ByteArray) : (psB t).size = t.size / 2 := parB_len t.data.toList
theorem own_bytes {w : World} {m : Nat} {bs : List UInt8} (h : Holds w m (bs.map byteV) 5) (hl : bs.length ≤ maxLen) : w.ownsRow m 5 1 (.slice (some ⟨m, 0, none⟩) bs.length bs.length) bs.length (bs.map byteV) :=
  ⟨by simp, .inr ⟨m, bs.length, (bs.map byteV).toArray, rfl, Nat.le_refl _, h, Nat.le_refl _, hl, by simp, List.take_of_length_le (by simp)⟩⟩

set_option maxRecDepth 100000 in
set_option maxHeartbeats 4000000 in
theorem parse_any (s : ByteArray) (hs : s.size ≤ 549755813888) (w : World) : Calls Try.prog 31 #[.string s] w (MakesE w (psV s) (psE s)) := by
  have hpl : (parB s.data.toList).length = s.size / 2 := parB_len _
  obtain ⟨L, hL⟩ : ∃ L, parB s.data.toList = L := ⟨_, rfl⟩
  obtain ⟨i5, hi5, hz5, hs5, hb5⟩ := inf5
  obtain ⟨n, hn⟩ : ∃ n, s.size / 2 = n := ⟨_, rfl⟩
  have hmk := run_make (P := Try.prog) w 64 5 i5 (.int .u8 0) und64 hi5 hz5 .i64 .i64 (n : Int) (n : Int) (by omega) (by omega) (by rw [hb5]; omega) (by omega)
  rw [hs5, Int.toNat_natCast, Nat.mul_one] at hmk
  have hsi : (s.size : Int).tdiv 2 = (n : Int) := by rw [Int.tdiv_eq_ediv_of_nonneg (by omega)]; omega
  have hsj : (s.size : Int) / 2 = (n : Int) := by omega
  clear hi5
  obtain ⟨m, hm⟩ : ∃ m, w.heap.size = m := ⟨_, rfl⟩
  have hB1 : Below m w (w.alloc (.cells (madeCells (Value.int .u8 0).cells n) 5)) := (Below.refl _ w).alloc (by omega) _
  have hH1 : Holds (w.alloc (.cells (madeCells (Value.int .u8 0).cells n) 5)) m (madeCells (Value.int .u8 0).cells n).toList 5 := by
    have := heap_alloc_new w (.cells (madeCells (Value.int .u8 0).cells n) 5)
    unfold Holds
    rw [← hm, this]
  have hl1 : (madeCells (Value.int .u8 0).cells n).toList.length = n := by simp [size_madeCells]
  rw [hm] at hmk
  generalize w.alloc (.cells (madeCells (Value.int .u8 0).cells n) 5) = w1 at *
  generalize (madeCells (Value.int .u8 0).cells n).toList = Z at *
  go_enter Try.func31, Try.ntmps31
  go_wp2
  go_loopw [14] (fun c wr => ∃ (k : Nat) (tl : List Value), k ≤ n ∧ c = .int .i64 (k : Int) ∧ tl.length = n - k ∧ Holds wr m ((L.take k).map byteV ++ tl) 5 ∧ Below m w wr) (fun c _ => n - (intOf c).toNat)
  case atStart => exact ⟨0, Z, by omega, rfl, by omega, by simpa using hH1, hB1⟩
  case round =>
    obtain ⟨k, tl, hk, rfl, htl, hH, hB⟩ := hrel
    rcases Nat.lt_or_ge k n with hlt | hge
    · have k0 : 2 * k < s.size := by omega
      have k1 : 2 * k + 1 < s.size := by omega
      obtain ⟨y1, hy1⟩ : ∃ y, s[2 * k]'k0 = y := ⟨_, rfl⟩
      obtain ⟨y2, hy2⟩ : ∃ y, s[2 * k + 1]'k1 = y := ⟨_, rfl⟩
      have g1 : (0 : Int) ≤ 2 * (k : Int) := by omega
      have g2 : 2 * (k : Int) < (s.size : Int) := by omega
      have g3 : (0 : Int) ≤ 2 * (k : Int) + 1 := by omega
      have g4 : 2 * (k : Int) + 1 < (s.size : Int) := by omega
      have g5 : (0 : Int) ≤ (k : Int) := by omega
      have g6 : (k : Int) < (n : Int) := by omega
      have e1 : (2 * (k : Int)).toNat = 2 * k := by omega
      have e2 : (2 * (k : Int) + 1).toNat = 2 * k + 1 := by omega
      have w1' : IntKind.i64.wrap (2 * (k : Int)) = 2 * (k : Int) := by simp [IntKind.wrap, IntKind.bits, IntKind.signed]; omega
      have w2' : IntKind.i64.wrap (2 * (k : Int) + 1) = 2 * (k : Int) + 1 := by simp [IntKind.wrap, IntKind.bits, IntKind.signed]; omega
      have w3' : wrap64 (2 * (k : Int)) = 2 * (k : Int) := by unfold wrap64; omega
      have w4' : wrap64 (2 * (k : Int) + 1) = 2 * (k : Int) + 1 := by unfold wrap64; omega
      have hdig := @digit_any
      have f0 := hH.frozen k
      have hLk : L[k]? = some (nib y1 y2) := by
        rw [← hL]
        refine parB_at _ _ _ _ ?_ ?_
        · rw [← hy1]; exact get_list s _ k0
        · rw [← hy2]; exact get_list s _ k1
      have hAl : ((L.take k).map byteV).length = k := by rw [List.length_map, List.length_take]; rw [hL, hn] at hpl; omega
      obtain ⟨z, tl', rfl⟩ : ∃ z tl', tl = z :: tl' := by
        cases tl with
        | nil => simp at htl; omega
        | cons z tl' => exact ⟨z, tl', rfl⟩
      have hz : wr.cell? ⟨m, k, none⟩ = some z := hH.at k z (by rw [List.getElem?_append_right (by omega), hAl]; simp)
      have hH2 := hH.set k (.int .u8 (nibI y1 y2))
      rw [List.set_append_right _ _ (by omega), hAl, Nat.sub_self, List.set_cons_zero, ← byteV_nib] at hH2
      have hH3 : Holds (wr.setCell ⟨m, k, none⟩ (byteV (nib y1 y2))).drew m ((L.take (k + 1)).map byteV ++ tl') 5 := by
        have e : (L.take (k + 1)).map byteV ++ tl' = (L.take k).map byteV ++ byteV (nib y1 y2) :: tl' := by rw [List.take_add_one, hLk]; simp
        rw [e]; exact hH2
      rw [byteV_nib] at hH3
      have hB3 : Below m w (wr.setCell ⟨m, k, none⟩ (.int .u8 (nibI y1 y2))).drew := (hB.setCell (p := ⟨m, k, none⟩) (Nat.le_refl _) _).drew
      have hlt' : tl'.length = n - (k + 1) := by simp at htl; omega
      unfold nibI at hH3 hB3
      clear hH2 hLk hAl hH
      go_wp2_with fail
      go_region_with (go_at_call 50; refine (hdig _ _).mono ?_; rintro e w' ⟨rfl, rfl⟩)
      all_goals
        clear hy1 hy2
        go_wp2
        go_roundw
        case rel => exact ⟨k + 1, tl', by omega, by simp, hlt', hH3, hB3⟩
        case measure => simp; omega
    · obtain rfl : k = n := by omega
      obtain rfl : tl = [] := List.eq_nil_of_length_eq_zero (by omega)
      rw [hL] at hpl
      rw [List.append_nil, List.take_of_length_le (by omega)] at hH
      have hown := own_bytes hH (by unfold maxLen; omega)
      have hcv := convert_own hown
      have hps : psB s = strL L := by unfold psB; rw [hL]
      rw [show L.length = k by omega] at hcv
      have hle : m ≤ wr.heap.size := by have := hB.size; omega
      have h30 := cread_any (psB s) (by rw [psB_size]; omega) wr
      have h29 := fun W a c h => text_any (.slice a (rdV (psB s)).length c) (rdV (psB s)) (by have := rdV_len (psB s); rw [psB_size] at this; omega) (rdV_fit _) W h
      rw [hps] at h30 h29
      have R1 : strL (textC (rdV (strL L))) = s → ∀ a c w6 w7, Clk (From wr.heap.size w6) w6 (.slice a (rdV (strL L)).length c) (rdV (strL L)) → Below wr.heap.size wr w6 → Below w6.heap.size w6 w7 → MakesE w (psV s) (psE s) (.returned (.tuple #[.slice a (rdV (strL L)).length c, .int .i64 0])) w7 := fun hok a c w6 w7 hc b6 b7 => by
        have e0 : psOk s = true := by unfold psOk; rw [hps]; exact decide_eq_true hok
        have e1 : psV s = rdV (strL L) := by unfold psV; rw [e0, hps]; rfl
        have e2 : psE s = 0 := by unfold psE; rw [e0]; rfl
        rw [e1, e2]
        refine ⟨a, c, rfl, (hc.keep (Kp.ofBelow b7 (fun k hk => hk.2))).mono (fun k hk => ⟨by have := hk.1; omega, Nat.lt_of_lt_of_le hk.2 b7.size⟩), hm ▸ hB.trans ((below_trans b6 b7).mono hle)⟩
      have R2 : ¬ strL (textC (rdV (strL L))) = s → ∀ w6 w7, Below wr.heap.size wr w6 → Below w6.heap.size w6 w7 → MakesE w (psV s) (psE s) (.returned (.tuple #[.slice none 0 0, .int .i64 31])) w7 := fun hok w6 w7 b6 b7 => by
        have e0 : psOk s = false := by unfold psOk; rw [hps]; exact decide_eq_false hok
        have e1 : psV s = [] := by unfold psV; rw [e0]; rfl
        have e2 : psE s = 31 := by unfold psE; rw [e0]; rfl
        rw [e1, e2]
        exact ⟨none, 0, rfl, Clk.nil _ _ _ _, hm ▸ hB.trans ((below_trans b6 b7).mono hle)⟩
      have H30 : Hid (Calls Try.prog 30 #[.string (strL L)] wr (MakesE wr (rdV (strL L)) (rdE (strL L)))) := h30
      clear h30 hown hH hps
      generalize strL (textC (rdV (strL L))) = T at *
      generalize hVv : rdV (strL L) = V at *
      generalize rdE (strL L) = E at *
      clear hVv
      by_cases hok : T = s
      · have R := R1 hok
        clear R1 R2
        rw [hok] at h29
        clear hok
        have HR : Hid (∀ a c w6 w7, Clk (From wr.heap.size w6) w6 (.slice a V.length c) V → Below wr.heap.size wr w6 → Below w6.heap.size w6 w7 → MakesE w (psV s) (psE s) (.returned (.tuple #[.slice a V.length c, .int .i64 0])) w7) := R
        clear R
        go_wp2_with (first
          | (go_at_call 29; refine (h29 w6 a6 c6 hc6.made).mono ?_; rintro e w7 ⟨rfl, b7⟩)
          | (go_at_call 30; refine H30.out.mono ?_; rintro e w6 ⟨a6, c6, rfl, hc6, b6⟩))
        go_ret2
        exact HR.out a6 c6 w6 w7 hc6 b6 b7
      · have R := R2 hok
        clear R1 R2
        have hok' : (T.toList == s.toList) = false := str_ne hok
        clear hok
        have HR : Hid (∀ w6 w7, Below wr.heap.size wr w6 → Below w6.heap.size w6 w7 → MakesE w (psV s) (psE s) (.returned (.tuple #[.slice none 0 0, .int .i64 31])) w7) := R
        clear R
        go_wp2_with (first
          | (go_at_call 29; refine (h29 w6 a6 c6 hc6.made).mono ?_; rintro e w7 ⟨rfl, b7⟩)
          | (go_at_call 30; refine H30.out.mono ?_; rintro e w6 ⟨a6, c6, rfl, hc6, b6⟩))
        go_ret2
        exact HR.out w6 w7 b6 b7
end Go.Proofs.Ytbmeflildmeecaa
