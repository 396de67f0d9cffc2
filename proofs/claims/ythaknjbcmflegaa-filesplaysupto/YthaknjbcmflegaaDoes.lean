/- One call of both disks: what it wants. -/
import Derived.Test.YthaknjbcmflegaaBits
import Derived.Test.YthaknjbcmflegaaRefCrashW
import Derived.Test.YthaknjbcmflegaaRefRename
import Derived.Test.YthaknjbcmflegaaRefList
namespace Go.Proofs.Ythaknjbcmflegaa
open Go.RowKit Go.Maps Go.WideMaps

structure Cl where
  kind : Int
  num : Int
  names : List ByteArray
  parts : List ByteArray
  picks : List Int
structure Cl.Ok (o : Cl) : Prop where
  kind : -9223372036854775808 ≤ o.kind ∧ o.kind < 9223372036854775808
  num : -9223372036854775808 ≤ o.num ∧ o.num < 9223372036854775808
  names : ∀ s ∈ o.names, s.size < 9223372036854775808
  parts : ∀ s ∈ o.parts, s.size ≤ 140737488355328
  picks : ∀ p ∈ o.picks, -9223372036854775808 ≤ p ∧ p < 9223372036854775808
  nl : o.names.length < 9223372036854775808
  pl : o.parts.length < 9223372036854775808
  kl : o.picks.length < 9223372036854775808
  sum : lens o.parts ≤ 140737488355328
structure ClAt (w : World) (N : Nat) (o : Cl) (na pa ka : Option Addr) (kc : Nat) : Prop where
  names : LowStrs w N na o.names
  parts : LowStrs w N pa o.parts
  picks : LowInts w N ka o.picks
  cap : o.picks.length ≤ kc ∧ kc ≤ maxLen
theorem ClAt.below {w w' : World} {N : Nat} {o : Cl} {na pa ka : Option Addr} {kc : Nat} (h : ClAt w N o na pa ka kc) (hb : Below N w w') : ClAt w' N o na pa ka kc := ⟨h.names.below hb, h.parts.below hb, h.picks.below hb, h.cap⟩
/-- Both disks say the same. -/
structure Pair (w : World) (N d r : Nat) (S : Dk) : Prop where
  disk : DiskAt w N d S
  ref : RefAt w N r S
theorem Pair.below {w w' : World} {N d r : Nat} {S : Dk} (h : Pair w N d r S) (hb : Below w.heap.size w w') : Pair w' N d r S := ⟨h.disk.below hb, h.ref.below hb⟩
theorem Pair.le {w : World} {N d r : Nat} {S : Dk} (h : Pair w N d r S) : N ≤ w.heap.size := by have := h.ref.lt; omega
/-- What a call leaves. -/
structure Left (w w' : World) (N d r : Nat) (S : Dk) : Prop where
  ex : ∃ S', Pair w' N d r S' ∧ S'.fs.length ≤ S.fs.length + 1
  low : Below N w w'

theorem eachR_len (T : Dk → List UInt8 → Dk) (hT : ∀ S k f, S.Good → get S.fs k = some f → (T S k).Good ∧ (T S k).fs.length ≤ S.fs.length) : ∀ (ss : List ByteArray) (S : Dk), S.Good → (eachR T S ss).2.fs.length ≤ S.fs.length
  | [], S, _ => Nat.le_refl _
  | s :: r, S, hS => by
    by_cases h0 : foundE S s = 0
    · by_cases h1 : stepE S = 0
      · rw [eachR_on h0 h1]
        obtain ⟨_, _, f, hf⟩ := found_zero h0
        obtain ⟨g1, g2⟩ := hT (stepS S) s.data.toList f hS.step (by rw [stepS_fs]; exact hf)
        have := eachR_len T hT r _ g1
        rw [stepS_fs] at g2
        omega
      · rw [eachR_out h0 h1]
        show (stepS S).fs.length ≤ _
        rw [stepS_fs]; exact Nat.le_refl _
    · rw [eachR_none h0]; exact Nat.le_refl _
theorem sync_len (ss : List ByteArray) (S : Dk) (h : S.Good) : (eachR syncS S ss).2.fs.length ≤ S.fs.length := eachR_len syncS (fun S k f hS hf => ⟨hS.sync k f hf, by
  show (put k _ S.fs).length ≤ _
  rw [len_put_old hS.rise k _ f hf]; exact Nat.le_refl _⟩) ss S h
theorem drop_len (ss : List ByteArray) (S : Dk) (h : S.Good) : (eachR dropS S ss).2.fs.length ≤ S.fs.length := eachR_len dropS (fun S k _ hS _ => ⟨hS.drop k, len_del S.fs k⟩) ss S h
theorem ren_len (S : Dk) (s t : ByteArray) : (renS S s t).fs.length ≤ S.fs.length + 1 := by
  unfold renS eachS
  split
  · split
    · split
      · show (put _ _ (del _ (stepS S).fs)).length ≤ _
        have h1 := len_put_le (del s.data.toList (stepS S).fs) t.data.toList (oldF (stepS S) s.data.toList)
        have h2 := len_del (stepS S).fs s.data.toList
        rw [stepS_fs] at h1 h2 ⊢
        omega
      · rw [stepS_fs]; omega
    · omega
  · omega
theorem steps_some (N d : Nat) (S : Dk) (w : World) (h : DiskAt w N d S) : Calls Try.prog 11 #[.pointer (some ⟨d, 0, none⟩)] w fun e w' => e = .returned (.int .i64 S.steps) ∧ w' = w := by
  obtain ⟨mv, st, A, V, hH, hN, hM, hF, hS⟩ := h
  have c2 := hH.at 2 _ rfl
  have ht := hS.tie
  subst ht
  clear hM hF hS hH
  go_enter Try.func11, Try.ntmps11
  go_wp2
  go_ret
  exact ⟨rfl, rfl⟩
theorem list_off (N d : Nat) (S : Dk) (hon : S.on = false) (p : ByteArray) (w : World) (h : DiskAt w N d S) : Calls Try.prog 14 #[.pointer (some ⟨d, 0, none⟩), .string p] w fun e w' => e = .returned (.slice none 0 0) ∧ Below w.heap.size w w' := by
  have ho : Hid (∀ W, DiskAt W N d S → Calls Try.prog 8 #[.pointer (some ⟨d, 0, none⟩)] W fun e w' => e = .returned (.bool false) ∧ w' = W) := fun W hW => by
    have := on_some N d S W hW
    rw [hon] at this; exact this
  have HD : Hid (∀ o, DiskAt (w.alloc o) N d S) := fun o => h.alloc o
  clear h
  go_enter Try.func14, Try.ntmps14
  go_wp2_with (go_at_call 8; refine (ho.out _ (HD.out _)).mono ?_; rintro e w2 ⟨rfl, rfl⟩)
  go_ret
  exact ⟨rfl, (Below.refl _ _).alloc (Nat.le_refl _) _⟩
/-- List, with power or without. -/
theorem list_both (N d : Nat) (S : Dk) (p : ByteArray) (w : World) (h : DiskAt w N d S) : Calls Try.prog 14 #[.pointer (some ⟨d, 0, none⟩), .string p] w fun e w' => ∃ a c, e = .returned (.slice a (listE S p).length c) ∧ TextsAt w' a (listE S p) ∧ Below w.heap.size w w' := by
  cases hon : S.on with
  | false =>
    rw [show listE S p = [] by rw [listE, if_neg (by rw [hon]; decide)]]
    exact (list_off N d S hon p w h).mono fun e w' ⟨h1, h2⟩ => ⟨none, 0, h1, fun i x hx => by simp at hx, h2⟩
  | true =>
    rw [show listE S p = listK S p by rw [listE, if_pos hon]]
    refine (list_some N d S hon p w h).mono fun e w' ⟨a, c, h1, h2, h3⟩ => ⟨a, c, h1, fun i x hx => ?_, h3⟩
    rcases h2 with h0 | ⟨g, e, hc⟩
    · rw [h0] at hx; simp at hx
    · exact ⟨g, 0, e, by rw [Nat.zero_add]; exact hc i x hx⟩
theorem rlist_both (N r : Nat) (S : Dk) (p : ByteArray) (w : World) (h : RefAt w N r S) : Calls Try.prog 16 #[.pointer (some ⟨r, 0, none⟩), .string p] w fun e w' => ∃ a c, e = .returned (.slice a (listE S p).length c) ∧ TextsAt w' a (listE S p) ∧ Below w.heap.size w w' := by
  refine (rlist_some N r S p w h).mono fun e w' ⟨v, h1, h2, h3⟩ => ?_
  generalize listE S p = l at *
  rcases h2.2 with ⟨rfl, h0⟩ | ⟨g, cap, cur, rfl, hb, hg, q1, q2, q3, q4⟩
  · have := List.eq_nil_of_length_eq_zero h0
    subst this
    exact ⟨none, 0, h1, fun i x hx => by simp at hx, h3⟩
  · refine ⟨_, _, h1, fun i x hx => ⟨g, 0, rfl, ?_⟩, h3⟩
    have hi := (List.getElem?_eq_some_iff.1 hx).1
    rw [Nat.zero_add, cell_of_row w' g i cur 9 (0, 0) hg]
    have : (strRow l)[i]? = some (.string (strL x)) := by simp [strRow, hx]
    rw [← q4, List.getElem?_take_of_lt (by omega), Array.getElem?_toList] at this
    exact this
theorem list_len (S : Dk) (p : ByteArray) : (listE S p).length ≤ S.fs.length := by
  unfold listE
  split
  · unfold listK
    have := List.length_filter_le (fun k => preS p ⟨k.toArray⟩) (S.fs.map Prod.fst)
    simpa using this
  · simp
end Go.Proofs.Ythaknjbcmflegaa
