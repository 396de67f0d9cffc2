/- The names of all files, rising. -/
import Derived.Test.YthaknjbcmflegaaSync
import Derived.Test.YthaknjbcmflegaaIter
namespace Go.Proofs.Ythaknjbcmflegaa
open Go.RowKit Go.Maps Go.WideMaps Go.Sort Go.Shelf

theorem rising_sorted {l : Fs} (h : Rising l) {ss : List (List UInt8)} (hp : ss.Perm (l.map Prod.fst)) : ss.mergeSort (fun x y => decide (x ≤ y)) = l.map Prod.fst := by
  have tr : ∀ a b c : List UInt8, leB a b = true → leB b c = true → leB a c = true := fun a b c h1 h2 => by simp only [leB, decide_eq_true_eq] at *; exact List.le_trans h1 h2
  have to : ∀ a b : List UInt8, (leB a b || leB b a) = true := fun a b => by simp only [leB, Bool.or_eq_true, decide_eq_true_eq]; exact List.le_total a b
  refine List.Perm.eq_of_pairwise (le := fun a b => leB a b = true) (fun a b _ _ h1 h2 => ?_) (List.pairwise_mergeSort tr to ss) (List.pairwise_map.2 (h.imp fun {p q} hlt => ?_)) ((List.mergeSort_perm ss leB).trans hp)
  · simp only [leB, decide_eq_true_eq] at h1 h2
    exact List.le_antisymm h1 h2
  · simp only [leB, decide_eq_true_eq]
    exact List.le_of_lt hlt
set_option maxHeartbeats 1000000 in
theorem names_some (N d : Nat) (S : Dk) (w : World) (h : DiskAt w N d S) :
    Calls Try.prog 34 #[.pointer (some ⟨d, 0, none⟩)] w fun e w' => ∃ v, e = .returned v ∧ w'.ownsRow w.heap.size 9 1 v S.fs.length ((S.fs.map Prod.fst).map encStr) ∧ Below w.heap.size w w' := by
  obtain ⟨mv, st, A, V, ho⟩ := h.open
  have c0 := ho.holds.at 0 _ rfl
  rcases ho.map with ⟨rfl, hn⟩ | ⟨mb, n, D, rfl, hNm, hown, hat, hhas⟩
  · have e : S.fs = [] := used_empty ho.files hn
    have e2 : (S.fs.map Prod.fst).map encStr = [] := by rw [e]; rfl
    have e3 : S.fs.length = 0 := by rw [e]; rfl
    rw [e2, e3]
    clear ho h hn e e2 e3
    refine (callsIn_wide (n := 6)).1 ?_
    have hfK : Fence.wide.fn 59 := trivial
    have hfS : Fence.wide.fn 58 := trivial
    refine callsIn_of_wp Try.func34 rfl trivial ?_ rfl
    simp only [Try.ntmps34, List.size_toArray, List.length_cons, List.length_nil, Nat.reduceAdd, Nat.reduceSub, Array.replicate_succ, Array.replicate_zero, List.push_toArray, List.append_toArray, List.nil_append, List.cons_append]
    gi_wp2_with (first
      | (gi_at_call 59; refine (Try.maps_Keys_59 _ _).mono ?_; rintro e w' ⟨rfl, rfl⟩)
      | (gi_at_call 58; refine (Try.slices_Sorted_keys_nil_58_59 w).mono ?_; rintro e w' ⟨v, ss, rfl, hS, hrow, hnil, hb⟩))
    go_ret
    refine ⟨v, rfl, ?_, ((Below.refl _ w).alloc (Nat.le_refl _) _).trans (hb.mono (by simp))⟩
    rw [hnil.2 hS]
    exact World.ownsRow_nil _ _ _ _
  · have hsz : Maps.size D ≤ 256 := by
      rw [size_files hown ho.fine.rise (fun k => by rw [hhas, ho.files.some_iff])]
      exact ho.fine.len
    have hperm := keys_perm hown ho.fine.rise (fun k => by rw [hhas, ho.files.some_iff])
    have hfin : Hid (∀ ss : List (List UInt8), ss.Perm (strKeys D) → ss.length = S.fs.length ∧ ss.mergeSort (fun x y => decide (x ≤ y)) = S.fs.map Prod.fst) := fun ss hs => by
      have h1 := hs.trans hperm.symm
      exact ⟨by rw [h1.length_eq, List.length_map], rising_sorted ho.fine.rise h1⟩
    have hmax : Maps.size D ≤ maxLen := by unfold maxLen; omega
    have hbytes : Maps.size D * 16 ≤ 140737488355328 := by omega
    clear ho h hat hhas hperm
    refine (callsIn_wide (n := 6)).1 ?_
    have hfK : Fence.wide.fn 59 := trivial
    have hfS : Fence.wide.fn 58 := trivial
    refine callsIn_of_wp Try.func34 rfl trivial ?_ rfl
    simp only [Try.ntmps34, List.size_toArray, List.length_cons, List.length_nil, Nat.reduceAdd, Nat.reduceSub, Array.replicate_succ, Array.replicate_zero, List.push_toArray, List.append_toArray, List.nil_append, List.cons_append]
    gi_wp2_with (first
      | (gi_at_call 59; refine (Try.maps_Keys_59 _ _).mono ?_; rintro e w' ⟨rfl, rfl⟩)
      | (gi_at_call 58; refine (Try.slices_Sorted_keys_58_59 mb n D ptrElem w hown hmax hbytes).mono ?_; rintro e w' ⟨v, ss, rfl, hS, hrow, hnil, hb⟩))
    go_ret
    obtain ⟨q1, q2⟩ := hfin.out ss hS
    rw [q1, q2] at hrow
    exact ⟨v, rfl, ownsRow_base_a hrow (by simp), ((Below.refl _ w).alloc (Nat.le_refl _) _).trans (hb.mono (by simp))⟩
end Go.Proofs.Ythaknjbcmflegaa
