/- Which names are taken. -/
import Derived.Test.YtfmmholkeadejaaGreatDoorZFields
namespace Go.Proofs.YtfmmholkeadejaaGreatDoor
open Go.RowKit Go.Maps Go.WideMaps

def inName (c : UInt8) : Bool := (decide (97 ≤ c.toNat) && decide (c.toNat ≤ 122)) || (decide (48 ≤ c.toNat) && decide (c.toNat ≤ 57)) || decide (c.toNat = 46) || decide (c.toNat = 45)
def nameOk (s : ByteArray) : Bool := decide (0 < s.size) && decide (s.size ≤ 32) && s.data.toList.all inName
theorem emp_true {s : ByteArray} (h : s.size = 0) : s.toList.isEmpty = true := by
  rw [ByteArray.toList_eq]
  obtain ⟨d⟩ := s
  have : d = #[] := Array.eq_empty_of_size_eq_zero h
  rw [this]; rfl
theorem emp_false {s : ByteArray} (h : s.size ≠ 0) : s.toList.isEmpty = false := by
  rw [ByteArray.toList_eq]
  obtain ⟨d⟩ := s
  cases hd : d.toList with
  | nil => exact absurd (by show d.size = 0; rw [← Array.length_toList, hd]; rfl) h
  | cons x r => rfl
theorem inName_true (c : UInt8) : inName c = true ↔ (97 ≤ c.toNat ∧ c.toNat ≤ 122) ∨ (48 ≤ c.toNat ∧ c.toNat ≤ 57) ∨ c.toNat = 46 ∨ c.toNat = 45 := by
  simp [inName, or_assoc]
set_option maxHeartbeats 800000 in
theorem inNames_any (c : UInt8) (w : World) : Calls Tryz.prog 164 #[.int .u8 (c.toNat : Int)] w fun e w' => e = .returned (.bool (inName c)) ∧ w' = w := by
  cases hX : inName c with
  | true =>
    have hY := (inName_true c).1 hX
    clear hX
    generalize c.toNat = n at *
    by_cases h1 : (97 : Int) ≤ (n : Int) <;> by_cases h2 : (n : Int) ≤ 122 <;> by_cases h3 : (48 : Int) ≤ (n : Int) <;> by_cases h4 : (n : Int) ≤ 57 <;> by_cases h5 : (n : Int) = 46 <;> by_cases h6 : (n : Int) = 45 <;> first
      | (exfalso; omega)
      | (clear hY
         go_enter Tryz.func164, Tryz.ntmps164
         go_wp2
         go_ret
         exact ⟨rfl, rfl⟩)
  | false =>
    have hY : ¬ _ := fun h => Bool.false_ne_true (hX.symm.trans ((inName_true c).2 h))
    clear hX
    generalize c.toNat = n at *
    by_cases h1 : (97 : Int) ≤ (n : Int) <;> by_cases h2 : (n : Int) ≤ 122 <;> by_cases h3 : (48 : Int) ≤ (n : Int) <;> by_cases h4 : (n : Int) ≤ 57 <;> by_cases h5 : (n : Int) = 46 <;> by_cases h6 : (n : Int) = 45 <;> first
      | (exfalso; omega)
      | (clear hY
         go_enter Tryz.func164, Tryz.ntmps164
         go_wp2
         go_ret
         exact ⟨by simp [h5, h6], rfl⟩)
theorem get_list (s : ByteArray) (k : Nat) (hk : k < s.size) : s.data.toList[k]? = some (s[k]'hk) := by
  rw [Array.getElem?_toList]
  exact Array.getElem?_eq_getElem _
theorem all_take (p : UInt8 → Bool) (l : List UInt8) (k : Nat) (c : UInt8) (hc : l[k]? = some c) : (l.take (k + 1)).all p = ((l.take k).all p && p c) := by
  rw [List.take_add_one, hc, List.all_append]
  simp
set_option maxHeartbeats 800000 in
theorem isName_any (s : ByteArray) (hs : s.size < 9223372036854775808) (w : World) : Calls Tryz.prog 125 #[.string s] w fun e w' => e = .returned (.bool (nameOk s)) ∧ w' = w := by
  by_cases h0 : s.size = 0
  · have he := emp_true h0
    have hn : nameOk s = false := by simp [nameOk, h0]
    rw [hn]
    go_enter Tryz.func125, Tryz.ntmps125
    go_wp2
    go_ret
    exact ⟨rfl, rfl⟩
  have he := emp_false h0
  by_cases h32 : (32 : Int) < (s.size : Int)
  · have hn : nameOk s = false := by
      have : ¬ s.size ≤ 32 := by omega
      simp [nameOk, this]
    rw [hn]
    go_enter Tryz.func125, Tryz.ntmps125
    go_wp2
    go_ret
    exact ⟨rfl, rfl⟩
  have hn : Hid (nameOk s = s.data.toList.all inName) := by
    show nameOk s = _
    have h1 : 0 < s.size := by omega
    have h2 : s.size ≤ 32 := by omega
    simp [nameOk, h1, h2]
  rw [hn.out]
  have hl : Hid (s.data.toList.length = s.size) := rfl
  go_enter Tryz.func125, Tryz.ntmps125
  go_wp2_with fail
  go_loopw [13] (fun c wr => ∃ k : Nat, k ≤ s.size ∧ c = .int .i64 (k : Int) ∧ (s.data.toList.take k).all inName = true ∧ wr = w) (fun c _ => s.size - (intOf c).toNat)
  case atStart => exact ⟨0, by omega, rfl, by simp, rfl⟩
  case round =>
    obtain ⟨k, hk, rfl, hall, rfl⟩ := hrel
    by_cases hlt : k < s.size
    · obtain ⟨c, hc⟩ : ∃ c, s[k]'hlt = c := ⟨_, rfl⟩
      have hgl := get_list s k hlt
      rw [hc] at hgl
      have hst := all_take inName _ k c hgl
      rw [hall, Bool.true_and] at hst
      have Hst : Hid ((s.data.toList.take (k + 1)).all inName = inName c) := hst
      have Hall : Hid ((s.data.toList.take k).all inName = true) := hall
      clear hst hall hgl
      cases hcn : inName c with
      | true =>
        have hin := inNames_any c wr
        rw [hcn] at hin
        have Hin : Hid (Calls Tryz.prog 164 #[.int .u8 (c.toNat : Int)] wr fun e w' => e = .returned (.bool true) ∧ w' = wr) := hin
        have Hst2 : Hid ((s.data.toList.take (k + 1)).all inName = true) := by show _ = true; rw [Hst.out, hcn]
        clear hin hcn
        go_wp2_with (go_at_call 164; refine Hin.out.mono ?_; rintro e w2 ⟨rfl, rfl⟩)
        exact ⟨⟨k + 1, by omega, rfl, Hst2.out, trivial⟩, by simp; omega⟩
      | false =>
        have hin := inNames_any c wr
        rw [hcn] at hin
        have Hin : Hid (Calls Tryz.prog 164 #[.int .u8 (c.toNat : Int)] wr fun e w' => e = .returned (.bool false) ∧ w' = wr) := hin
        have Hfin : Hid (s.data.toList.all inName = false) := by
          show _ = false
          have h1 : (s.data.toList.take (k + 1)).all inName = false := by rw [Hst.out, hcn]
          rw [← List.take_append_drop (k + 1) s.data.toList, List.all_append, h1]; rfl
        clear hin hcn
        go_wp2_with (go_at_call 164; refine Hin.out.mono ?_; rintro e w2 ⟨rfl, rfl⟩)
        go_ret
        exact ⟨by rw [Hfin.out]; rfl, rfl⟩
    · have Hfin : Hid (s.data.toList.all inName = true) := by
        show _ = true
        rw [List.take_of_length_le (by have := hl.out; omega)] at hall
        exact hall
      clear hall
      go_wp2
      go_ret
      exact ⟨by rw [Hfin.out]; rfl, rfl⟩
/-- What named tells. -/
def namE (ss : List ByteArray) : Int := if ss.all nameOk = true then 0 else 20
theorem namE_ok {ss : List ByteArray} (h : ss.all nameOk = true) : namE ss = 0 := if_pos h
theorem namE_no {ss : List ByteArray} (h : ss.all nameOk = false) : namE ss = 20 := if_neg (by rw [h]; decide)
def namedE (S : Dk) (ss : List ByteArray) : Int := if S.on = true then namE ss else 23
theorem named_nil (a : Option Addr) (n c : Nat) (w : World) : Calls Tryz.prog 77 #[.pointer none, .slice a n c] w fun e w' => e = .returned (.int .i64 23) ∧ w' = w := by
  go_enter Tryz.func77, Tryz.ntmps77
  go_wp2_with (go_at_call 54; refine (on_nil _).mono ?_; rintro e w2 ⟨rfl, rfl⟩)
  go_ret
  exact ⟨rfl, rfl⟩
theorem all_takeB (p : ByteArray → Bool) (l : List ByteArray) (k : Nat) (c : ByteArray) (hc : l[k]? = some c) : (l.take (k + 1)).all p = ((l.take k).all p && p c) := by
  rw [List.take_add_one, hc, List.all_append]
  simp
set_option maxHeartbeats 800000 in
theorem named_some (N : Lo) (d : Nat) (S : Dk) (ss : List ByteArray) (hss : ∀ s ∈ ss, s.size < 9223372036854775808) (hl : ss.length < 9223372036854775808) (a : Option Addr) (c : Nat) (w : World) (h : DiskAt w N d S) (ha : StrsAt w N a ss) :
    Calls Tryz.prog 77 #[.pointer (some ⟨d, 0, none⟩), .slice a ss.length c] w fun e w' => e = .returned (.int .i64 (namedE S ss)) ∧ w' = w := by
  have hon : Hid (Calls Tryz.prog 54 #[.pointer (some ⟨d, 0, none⟩)] w fun e w' => e = .returned (.bool S.on) ∧ w' = w) := on_some N d S w h
  cases hO : S.on with
  | false =>
    rw [hO] at hon
    rw [namedE, if_neg (by rw [hO]; decide)]
    clear hO
    go_enter Tryz.func77, Tryz.ntmps77
    go_wp2_with (go_at_call 54; refine hon.out.mono ?_; rintro e w2 ⟨rfl, rfl⟩)
    go_ret
    exact ⟨rfl, rfl⟩
  | true =>
    rw [hO] at hon
    rw [namedE, if_pos hO]
    clear hO h
    have Hss : Hid (∀ s ∈ ss, s.size < 9223372036854775808) := hss
    have Ha : Hid (StrsAt w N a ss) := ha
    obtain ⟨m, hm⟩ : ∃ m, ss.length = m := ⟨_, rfl⟩
    have M : Hid (ss.length = m) := hm
    rw [hm] at hl ⊢
    clear hm hss ha
    go_enter Tryz.func77, Tryz.ntmps77
    go_wp2_with (go_at_call 54; refine hon.out.mono ?_; rintro e w2 ⟨rfl, rfl⟩)
    go_loopw [12] (fun c wr => ∃ k : Nat, k ≤ m ∧ c = .int .i64 (k : Int) ∧ (ss.take k).all nameOk = true ∧ wr = w2) (fun c _ => m - (intOf c).toNat)
    case atStart => exact ⟨0, by omega, rfl, by simp, rfl⟩
    case round =>
      obtain ⟨k, hk, rfl, hall, rfl⟩ := hrel
      by_cases hlt : k < m
      · obtain ⟨s, hs⟩ : ∃ s, ss[k]? = some s := ⟨ss[k]'(by have := M.out; omega), List.getElem?_eq_getElem _⟩
        have hsz := Hss.out s (List.mem_of_getElem? hs)
        rcases Ha.out with h0 | ⟨g, o, rfl, _, _, hL⟩
        · have := M.out; omega
        have ck := hL k s hs
        have hst := all_takeB nameOk _ k s hs
        rw [hall, Bool.true_and] at hst
        have Hst : Hid ((ss.take (k + 1)).all nameOk = nameOk s) := hst
        clear hst hall hL hs
        cases hcn : nameOk s with
        | true =>
          have hin := isName_any s hsz wr
          rw [hcn] at hin
          have Hin : Hid (Calls Tryz.prog 125 #[.string s] wr fun e w' => e = .returned (.bool true) ∧ w' = wr) := hin
          have Hst2 : Hid ((ss.take (k + 1)).all nameOk = true) := by show _ = true; rw [Hst.out, hcn]
          clear hin hcn
          go_wp2_with (go_at_call 125; refine Hin.out.mono ?_; rintro e w2 ⟨rfl, rfl⟩)
          exact ⟨⟨k + 1, by omega, rfl, Hst2.out, trivial⟩, by simp; omega⟩
        | false =>
          have hin := isName_any s hsz wr
          rw [hcn] at hin
          have Hin : Hid (Calls Tryz.prog 125 #[.string s] wr fun e w' => e = .returned (.bool false) ∧ w' = wr) := hin
          have Hfin : Hid (namE ss = 20) := namE_no (by
            have h1 : (ss.take (k + 1)).all nameOk = false := by rw [Hst.out, hcn]
            rw [← List.take_append_drop (k + 1) ss, List.all_append, h1]; rfl)
          clear hin hcn
          go_wp2_with (go_at_call 125; refine Hin.out.mono ?_; rintro e w2 ⟨rfl, rfl⟩)
          go_ret
          exact ⟨by rw [Hfin.out]; rfl, rfl⟩
      · have Hfin : Hid (namE ss = 0) := namE_ok (by
          rw [List.take_of_length_le (by have := M.out; omega)] at hall
          exact hall)
        clear hall
        go_wp2
        go_ret
        exact ⟨by rw [Hfin.out]; rfl, rfl⟩
end Go.Proofs.YtfmmholkeadejaaGreatDoor
