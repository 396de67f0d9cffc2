/- What a reader's num does. -/
import Derived.Test.YtbmeflildmeecaaPkRead
namespace Go.Proofs.Ytbmeflildmeecaa.Pk
open Go.RowKit

theorem get_list (s : ByteArray) (k : Nat) (h : k < s.size) : s.data.toList[k]? = some (s[k]'h) := by
  rw [List.getElem?_eq_getElem (by exact h)]; rfl
theorem ext_list (s : ByteArray) (a b : Nat) : (s.extract a b).data.toList = (s.data.toList.take b).drop a := by
  rw [ByteArray.data_extract, Array.toList_extract, List.extract_eq_take_drop, List.drop_take]
theorem ext_head (s : ByteArray) (n : Nat) : (s.extract 0 n).data.toList = s.data.toList.take n := by
  rw [ext_list, List.drop_zero]
theorem ext_tail (s : ByteArray) (n : Nat) : (s.extract n s.size).data.toList = s.data.toList.drop n := by
  rw [ext_list, List.take_of_length_le (show s.data.toList.length ≤ s.size from Nat.le_refl _)]

theorem ofInt_nat (m n : Nat) (h : n < 2 ^ m) : (BitVec.ofInt m (n : Int)).toNat = n := by
  rw [BitVec.ofInt_natCast, BitVec.toNat_ofNat, Nat.mod_eq_of_lt h]
theorem or_u64 (a b : Nat) (ha : a < 18446744073709551616) (hb : b < 18446744073709551616) : bits .or .u64 (a : Int) (b : Int) = ((a ||| b : Nat) : Int) := by
  show IntKind.u64.wrap ((BitVec.ofInt 64 (a : Int) ||| BitVec.ofInt 64 (b : Int)).toNat : Int) = _
  rw [BitVec.toNat_or, ofInt_nat 64 a ha, ofInt_nat 64 b hb, wrap_u64]
  have : a ||| b < 2 ^ 64 := Nat.or_lt_two_pow ha hb
  omega
theorem and_u8 (a b : Nat) (ha : a < 256) (hb : b < 256) : bits .and .u8 (a : Int) (b : Int) = ((a &&& b : Nat) : Int) := by
  show IntKind.u8.wrap ((BitVec.ofInt 8 (a : Int) &&& BitVec.ofInt 8 (b : Int)).toNat : Int) = _
  rw [BitVec.toNat_and, ofInt_nat 8 a ha, ofInt_nat 8 b hb, wrap_u8]
  have : a &&& b < 2 ^ 8 := Nat.and_lt_two_pow a hb
  omega
theorem and127 (y : UInt8) : bits .and .u8 (y.toNat : Int) 127 = ((y.toNat % 128 : Nat) : Int) := by
  have := and_u8 y.toNat 127 y.toNat_lt (by omega)
  rw [show (127 : Nat) = 2 ^ 7 - 1 from rfl, Nat.and_two_pow_sub_one_eq_mod] at this
  exact this
theorem num_step (a j : Nat) (y : UInt8) (r : Nat) (hr : r = a ||| ((y.toNat % 128) <<< (7 * j))) (h : r < 18446744073709551616) :
    bits .or .u64 (a : Int) (IntKind.u64.wrap (IntKind.u64.wrap (bits .and .u8 (y.toNat : Int) 127) * 2 ^ (7 * j))) = (r : Int) := by
  have h1 : (y.toNat % 128) <<< (7 * j) ≤ r := by rw [hr]; exact Nat.right_le_or
  have h2 : a ≤ r := by rw [hr]; exact Nat.left_le_or
  rw [and127, wrap_u64, wrap_u64]
  have e1 : ((y.toNat % 128 : Nat) : Int) % 18446744073709551616 = ((y.toNat % 128 : Nat) : Int) := by omega
  have e2 : ((y.toNat % 128 : Nat) : Int) * 2 ^ (7 * j) = (((y.toNat % 128) <<< (7 * j) : Nat) : Int) := by
    rw [Nat.shiftLeft_eq]; simp
  rw [e1, e2]
  clear e1 e2
  generalize (y.toNat % 128) <<< (7 * j) = q at *
  have e3 : (q : Int) % 18446744073709551616 = (q : Int) := by omega
  rw [e3, or_u64 _ _ (by omega) (by omega), hr]

/-- What num leaves. -/
def NumP (b : Nat) (s : ByteArray) (e : Int) (w : World) (x : Ending) (w' : World) : Prop :=
  x = .returned (.tuple #[.int .u64 (numV s.data.toList : Int), .int .i64 (numE s.data.toList)]) ∧
    (∃ s', Rd w' b s' e ∧ s'.size ≤ s.size ∧ (numE s.data.toList = 0 → s' = s.extract (lead s.data.toList + 1) s.size)) ∧ Upd b w w'

set_option maxHeartbeats 400000 in
set_option maxRecDepth 100000 in
theorem num_any (b : Nat) (s : ByteArray) (e : Int) (hs : s.size < 9223372036854775808) (w : World) (hr : Rd w b s e) :
    Calls Try.prog 65 #[.pointer (some ⟨b, 0, none⟩)] w (NumP b s e w) := by
  have c0 : w.cell? ⟨b, 0, none⟩ = some (.string s) := hr.at 0 _ rfl
  have hl : s.data.toList.length = s.size := rfl
  have hle := lead_le s.data.toList
  rw [hl] at hle
  obtain ⟨m, hm⟩ : ∃ m, lead s.data.toList = m := ⟨_, rfl⟩
  rw [hm] at hle
  go_enter Try.func65, Try.ntmps65
  go_wp2_with fail
  go_loop [4] (fun c => ∃ k : Nat, k ≤ m ∧ c = .int .i64 (k : Int)) (fun c => m - (intOf c).toNat)
  case atStart => exact ⟨0, by omega, rfl⟩
  case round =>
    obtain ⟨k, hk, rfl⟩ := hrel
    by_cases hlt : k < m
    · obtain ⟨x, hx, hx2⟩ := lead_lt s.data.toList k (by omega)
      have hks : k < s.size := by omega
      have hxe : (s[k]'hks) = x := by rw [get_list s k hks] at hx; exact Option.some.inj hx
      have hge : (128 : Int) ≤ ((s[k]'hks).toNat : Int) := by rw [hxe]; omega
      go_wp2
      exact ⟨⟨k + 1, by omega, rfl⟩, by simp; omega⟩
    · have hkm : k = m := by omega
      subst hkm
      by_cases hks : k < s.size
      · have hge : ((s[k]'hks).toNat : Int) < (128 : Int) := by
          have := lead_at s.data.toList (s[k]'hks) (by rw [hm]; exact get_list s k hks)
          omega
        have hcut : Hid (Calls Try.prog 81 #[.pointer (some ⟨b, 0, none⟩), .int .i64 ((k : Int) + 1)] w fun x w' => x = .returned (.string (s.extract 0 (k + 1))) ∧ Rd w' b (s.extract (k + 1) s.size) e ∧ Upd b w w') :=
          cut_any b s e (k + 1) (by omega) w hr
        have hne : lead s.data.toList ≠ s.data.toList.length := by omega
        have htz : (s.extract 0 (k + 1)).size = k + 1 := by simp; omega
        have htl : (s.extract 0 (k + 1)).data.toList = numB s.data.toList := by rw [ext_head, numB, hm]
        have hrz : (s.extract (k + 1) s.size).size ≤ s.size := by simp
        generalize s.extract 0 (k + 1) = t at hcut htz htl
        generalize hu : s.extract (k + 1) s.size = u at hcut hrz
        have hwell : Hid (∀ W, Calls Try.prog 82 #[.string t] W fun x w' => x = .returned (.bool (wellF (numB s.data.toList))) ∧ w' = W) := fun W => by
          have := well_any t (by omega) (by omega) W
          rw [htl] at this
          exact this
        cases hwf : wellF (numB s.data.toList) with
        | false =>
          have hE1 : numE s.data.toList = 11 := by rw [numE, if_neg hne, hwf]; rfl
          have hV1 : numV s.data.toList = 0 := by rw [numV, hE1]; rfl
          rw [hwf] at hwell
          clear hne
          go_wp2_with (first
            | (go_at_call 81; refine hcut.out.mono ?_; rintro e w1 ⟨rfl, h1, u1⟩)
            | (go_at_call 82; refine (hwell.out _).mono ?_; rintro e w2 ⟨rfl, rfl⟩))
          go_ret2
          rw [NumP, hE1, hV1]
          exact ⟨rfl, ⟨u, h1, hrz, fun h => by cases h⟩, u1⟩
        | true =>
          have hE1 : numE s.data.toList = 0 := by rw [numE, if_neg hne, hwf]; rfl
          have hV1 : numV s.data.toList = valN t.data.toList := by rw [numV, hE1, htl]; rfl
          have hv64 := valN_well hwf
          have hlen := wellF_len hwf
          rw [← htl] at hv64 hlen
          have hlen : t.size ≤ 10 := hlen
          rw [hwf] at hwell
          clear hne htl hwf
          go_wp2_with (first
            | (go_at_call 81; refine hcut.out.mono ?_; rintro e w1 ⟨rfl, h1, u1⟩)
            | (go_at_call 82; refine (hwell.out _).mono ?_; rintro e w2 ⟨rfl, rfl⟩))
          go_loop [6, 42] (fun n c => ∃ j : Nat, j ≤ t.size ∧ c = .int .i64 (j : Int) ∧ n = .int .u64 ((valN (t.data.toList.take j) : Nat) : Int)) (fun _ c => t.size - (intOf c).toNat)
          case atStart => exact ⟨0, by omega, rfl, rfl⟩
          case round =>
            obtain ⟨j, hj, rfl, rfl⟩ := hrel
            by_cases hjt : j < t.size
            · have hx := get_list t j hjt
              have hst := valN_step t.data.toList j _ hx
              have hlt2 := valN_take_lt t.data.toList (j + 1)
              generalize (t.data.toList.take j) = tk at *
              go_wp2
              exact ⟨⟨j + 1, by omega, rfl, by rw [num_step _ j _ _ hst (by omega)]⟩, by simp; omega⟩
            · have htk : t.data.toList.take j = t.data.toList := List.take_of_length_le (by have : t.data.toList.length = t.size := rfl; omega)
              rw [htk]
              go_wp2
              go_ret2
              rw [NumP, hE1, hV1]
              exact ⟨rfl, ⟨u, h1, hrz, fun _ => by rw [hm, hu]⟩, u1⟩
      · have hE1 : numE s.data.toList = 10 := by rw [numE, if_pos (by omega)]
        have hV1 : numV s.data.toList = 0 := by rw [numV, hE1]; rfl
        go_wp2
        go_ret2
        rw [NumP, hE1, hV1]
        exact ⟨rfl, ⟨s, hr, Nat.le_refl s.size, fun h => by cases h⟩, Upd.refl b w⟩
end Go.Proofs.Ytbmeflildmeecaa.Pk
