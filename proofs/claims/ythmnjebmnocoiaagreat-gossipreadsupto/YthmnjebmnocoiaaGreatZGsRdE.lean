/- What the two Reads tell is one thing. -/
import Derived.Test.YthmnjebmnocoiaaGreatZGsRdC
import Derived.Test.YthmnjebmnocoiaaGreatZGsLawC
namespace Go.Proofs.YthmnjebmnocoiaaGreat.En
open Go.RowKit

theorem numL_same (n : Nat) : Pk.numL n = numL n := by
  induction n using Nat.strongRecOn with
  | ind n ih =>
    by_cases h : n < 128
    · rw [Pk.numL_small h, numL_small h]
    · rw [Pk.numL_big h, numL_big h, ih (n / 128) (by omega)]
theorem zig_same (n : Int) : Pk.zig n = intN n := by
  unfold Pk.zig intN
  split <;> split <;> omega
theorem memA_same (m : Mb) : memA m = memB m := by simp [memA, memB, numL_same, zig_same]
theorem ownA_same (m : Ow) : ownA m = ownB m := by simp [ownA, ownB, numL_same, zig_same]
theorem bytes_same (r : Rg) : bytesG r = bytesR r := by
  have h1 : memA = memB := funext memA_same
  have h2 : ownA = ownB := funext ownA_same
  unfold bytesG bytesR
  rw [h1, h2, numL_same]
theorem norm_idem (r : Rg) : normL (normL r) = normL r :=
  normed_eq (merge_normed [r]) (fun n => by rw [jK_one]; rfl) (fun j hj => by
    obtain ⟨_, _, _, _, hso⟩ := merge_normed [r]
    rw [jO_one]
    exact okO_id (hso j hj))
theorem by_ext' {a b : ByteArray} (h : a.data.toList = b.data.toList) : a = b := Rd.by_ext h
theorem of_bytes {s : ByteArray} {l : List UInt8} (h : l = s.data.toList) : s = Pk.strL l := by
  subst h
  exact Rd.by_ext rfl
/-- A ring's own bytes are read as the ring put right. -/
theorem readG_own (r : Rg) (h : RFit r) : readG (Pk.strL (bytesG (normL r))) = (normL r, 0) := by
  have e := Rd.read_bytes (normL r) (Rd.norm_wfit h)
  unfold readG
  rw [e, norm_idem]
  exact if_pos rfl
theorem read_same (s : ByteArray) : readQ s = readG s := by
  unfold readQ readG
  by_cases h : bytesG (normL (Rd.readR s)) = s.data.toList
  · have hb := (Rd.read_back (normL (Rd.readR s)) (Rd.norm_wfit (readR_fit s))).2
    rw [← of_bytes h] at hb
    rw [if_pos h, if_pos]
    rw [hb]
    exact ⟨rfl, rfl, by rw [← bytes_same]; exact h⟩
  · rw [if_neg h, if_neg]
    intro q
    exact h (by rw [bytes_same]; exact q.2.2)
theorem readG_fit (s : ByteArray) : RFit (readG s).1 := by
  unfold readG
  split
  · exact readR_fit s
  · exact noR_fit
theorem readG_ok (s : ByteArray) : ((readG s).2 = 0 ∧ bytesG (normL (readG s).1) = s.data.toList) ∨ (readG s).2 = 11 := by
  unfold readG
  split
  · exact .inl ⟨rfl, by assumption⟩
  · exact .inr rfl
end Go.Proofs.YthmnjebmnocoiaaGreat.En
