/- The function of the statement FilesFirm, called with whatever texts and numbers, answers true. -/
import Derived.Test.YtfjmmeefobkkiaaAwake
namespace Go.Proofs.Ytfjmmeefobkkiaa
open Go.RowKit Go.Maps Go.WideMaps

def st0 : Dk := ⟨[], 16777216, true, false, 0⟩
def st1 (k : List UInt8) (B : List UInt8) (n : Nat) : Dk := ⟨[(k, ⟨B, n⟩)], 16777216, true, false, 0⟩
theorem new16 : newS 16777216 = st0 := by rfl
theorem str_ext {a b : ByteArray} (h : a.data.toList = b.data.toList) : a = b := by
  obtain ⟨⟨x⟩⟩ := a
  obtain ⟨⟨y⟩⟩ := b
  have : x = y := h
  rw [this]
theorem joins_one (p : ByteArray) : joins [p] = p.data.toList := by simp [joins]
/-- One file, or none yet. -/
def DF (W : World) (N d : Nat) (k B : List UInt8) (n : Nat) : Prop := (B = [] ∧ n = 0 ∧ DiskAt W N d st0) ∨ DiskAt W N d (st1 k B n)
theorem DF.below {W W' : World} {N d n : Nat} {k B : List UInt8} (h : DF W N d k B n) (hb : Below W.heap.size W W') : DF W' N d k B n := by
  rcases h with ⟨h1, h2, h3⟩ | h
  · exact .inl ⟨h1, h2, h3.below hb⟩
  · exact .inr (h.below hb)
theorem put_one (k : List UInt8) (f g : Fl) : put k f [(k, g)] = [(k, f)] := put_eq (p := (k, g)) rfl f []
theorem get_one (k : List UInt8) (g : Fl) : get [(k, g)] k = some g := by rw [get, if_pos rfl]
theorem df_append (N d : Nat) (s p : ByteArray) (hok : nameOk s = true) (B : List UInt8) (n : Nat) (hl : B.length + p.size ≤ 16777216) (W : World) (h : DF W N d s.data.toList B n) :
    Calls Try.prog 11 #[.pointer (some ⟨d, 0, none⟩), .string s, .slice (some ⟨W.heap.size, 0, none⟩) 1 1] (W.alloc (.cells #[.string p] 9)) fun e w' => e = .returned (.int .i64 0) ∧ DiskAt w' N d (st1 s.data.toList (B ++ p.data.toList) n) ∧ DUpd N W w' := by
  rcases h with ⟨rfl, rfl, h⟩ | h
  · have hf : fitB st0 [p] = true := by
      simp only [List.length_nil] at hl
      simp [fitB, st0, used, lens]; omega
    have := app1 N d st0 s p rfl hok (by omega) hf (by decide) W h
    rw [show stepE st0 = 0 from rfl, show stepS (layS st0 s.data.toList [p]) = st1 s.data.toList ([] ++ p.data.toList) 0 by
      unfold layS
      rw [joins_one]; rfl] at this
    exact this
  · have hf : fitB (st1 s.data.toList B n) [p] = true := by
      simp [fitB, st1, used, lens]; omega
    have := app1 N d (st1 s.data.toList B n) s p rfl hok (by omega) hf (by show 1 < 256; decide) W h
    rw [show stepE (st1 s.data.toList B n) = 0 from rfl, show stepS (layS (st1 s.data.toList B n) s.data.toList [p]) = st1 s.data.toList (B ++ p.data.toList) n by
      unfold layS
      rw [joins_one, oldF_some (f := ⟨B, n⟩) (get_one _ _)]
      show stepS { st1 s.data.toList B n with fs := put s.data.toList _ [(s.data.toList, ⟨B, n⟩)] } = _
      rw [put_one]; rfl] at this
    exact this
theorem found_st {s : ByteArray} (hok : nameOk s = true) (B : List UInt8) (n : Nat) : foundE (st1 s.data.toList B n) s = 0 := by
  rw [foundE, if_pos (show (st1 s.data.toList B n).on = true from rfl), if_pos hok]
  show (if (get [(s.data.toList, ⟨B, n⟩)] s.data.toList).isSome = true then (0 : Int) else 21) = 0
  rw [get_one]; rfl
theorem df_sync (N d : Nat) (s : ByteArray) (hok : nameOk s = true) (B : List UInt8) (n : Nat) (W : World) (h : DiskAt W N d (st1 s.data.toList B n)) :
    Calls Try.prog 12 #[.pointer (some ⟨d, 0, none⟩), .slice (some ⟨W.heap.size, 0, none⟩) 1 1] (W.alloc (.cells #[.string s] 9)) fun e w' => e = .returned (.int .i64 0) ∧ DiskAt w' N d (st1 s.data.toList B B.length) ∧ DUpd N W w' := by
  have := sync1 N d (st1 s.data.toList B n) s (by have := nameOk_le hok; omega) W h
  have h0 := found_st hok B n
  rw [show eachE (st1 s.data.toList B n) s = 0 by rw [eachE, if_pos h0]; rfl, show eachS (fun S' => syncS S' s.data.toList) (st1 s.data.toList B n) s = st1 s.data.toList B B.length by
    rw [eachS, if_pos h0, if_pos (show stepE (st1 s.data.toList B n) = 0 from rfl)]
    show syncS (st1 s.data.toList B n) s.data.toList = _
    unfold syncS
    rw [oldF_some (f := ⟨B, n⟩) (get_one _ _)]
    show ({ st1 s.data.toList B n with fs := put s.data.toList _ [(s.data.toList, ⟨B, n⟩)] } : Dk) = _
    rw [put_one]; rfl] at this
  exact this
theorem crash_st (k B : List UInt8) (n : Nat) (hn : n ≤ B.length) (ps : List Int) : ∃ m, n ≤ m ∧ m ≤ B.length ∧ crashS (st1 k B n) ps = st1 k (B.take m) m := by
  by_cases h0 : B.length - n = 0
  · refine ⟨B.length, by omega, Nat.le_refl _, ?_⟩
    show (⟨(crashD [(k, ⟨B, n⟩)] ps).1, _, _, _, _⟩ : Dk) = _
    simp only [crashD, crash1, if_pos h0, List.take_length]
    rfl
  · have hs := staysN_le (ps.headD 0) (B.length - n)
    refine ⟨n + staysN (ps.headD 0) (B.length - n), by omega, by omega, ?_⟩
    show (⟨(crashD [(k, ⟨B, n⟩)] ps).1, _, _, _, _⟩ : Dk) = _
    simp only [crashD, crash1, if_neg h0]
    have hl : (B.take (n + staysN (ps.headD 0) (B.length - n))).length = n + staysN (ps.headD 0) (B.length - n) := by rw [List.length_take]; omega
    rw [hl]; rfl
theorem df_crash (N d : Nat) (k B : List UInt8) (n : Nat) (hn : n ≤ B.length) (p : Int) (hp : -9223372036854775808 ≤ p ∧ p < 9223372036854775808) (W : World) (h : DiskAt W N d (st1 k B n)) :
    Calls Try.prog 13 #[.pointer (some ⟨d, 0, none⟩), .slice (some ⟨W.heap.size, 0, none⟩) 1 1] (W.alloc (.cells #[.int .i64 p] 3)) fun e w' => e = .returned (.tuple #[]) ∧ (∃ m, n ≤ m ∧ m ≤ B.length ∧ DiskAt w' N d (st1 k (B.take m) m)) ∧ DUpd N W w' := by
  obtain ⟨m, h1, h2, h3⟩ := crash_st k B n hn [p]
  have := crashOne N d (st1 k B n) p hp W h
  rw [h3] at this
  exact this.mono fun e w' ⟨a, b, c⟩ => ⟨a, ⟨m, h1, h2, b⟩, c⟩
theorem df_read (N d : Nat) (s : ByteArray) (hok : nameOk s = true) (B : ByteArray) (n : Nat) (W : World) (h : DiskAt W N d (st1 s.data.toList B.data.toList n)) :
    Calls Try.prog 14 #[.pointer (some ⟨d, 0, none⟩), .string s] W fun e w' => e = .returned (.tuple #[.string B, .int .i64 0]) ∧ DiskAt w' N d (st1 s.data.toList B.data.toList n) ∧ DUpd N W w' := by
  have := read_some N d _ s (by have := nameOk_le hok; omega) W h
  have h0 := found_st hok B.data.toList n
  rw [show readV (st1 s.data.toList B.data.toList n) s = B by
    rw [readV, if_pos h0]
    show (match get [(s.data.toList, (⟨B.data.toList, n⟩ : Fl))] s.data.toList with | some f => strL f.bytes | none => ⟨#[]⟩) = B
    rw [get_one]
    exact str_ext rfl, h0] at this
  exact this.mono fun e w' ⟨a, b⟩ => ⟨a, h.below b, DUpd.ofBelow b⟩
end Go.Proofs.Ytfjmmeefobkkiaa
