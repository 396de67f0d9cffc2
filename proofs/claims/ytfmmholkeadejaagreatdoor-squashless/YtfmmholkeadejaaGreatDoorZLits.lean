/- The calls, with lists that are written out. -/
import Derived.Test.YtfmmholkeadejaaGreatDoorZCrash
namespace Go.Proofs.YtfmmholkeadejaaGreatDoor
open Go.RowKit Go.Maps Go.WideMaps

theorem app1 (N : Lo) (d : Nat) (S : Dk) (s p : ByteArray) (hon : S.on = true) (hok : nameOk s = true) (hp : p.size ≤ 140737488355328) (hF : fitB S [p] = true) (hlen : S.fs.length < 256) (W : World) (hG : ∀ i, N.G i → i < W.heap.size) (h : DiskAt W N d S) :
    Calls Tryz.prog 35 #[.pointer (some ⟨d, 0, none⟩), .string s, .slice (some ⟨W.heap.size, 0, none⟩) 1 1] (W.alloc (.cells #[.string p] 9)) fun e w' => e = .returned (.int .i64 (stepE S)) ∧ DiskAt w' N d (stepS (layS S s.data.toList [p])) ∧ DUpd N W w' :=
  (append_ok N d S s hon hok [p] (by simpa using hp) (by simp) _ 1 _ (h.alloc _) (strs_one W N p) hF hlen (fun i gi => by have := hG i gi; simp; omega)).mono fun _ _ ⟨h1, h2, h3⟩ => ⟨h1, h2, ((DUpd.refl N W).alloc _).trans h3⟩
theorem app2 (N : Lo) (d : Nat) (S : Dk) (s p q : ByteArray) (hon : S.on = true) (hok : nameOk s = true) (hp : p.size ≤ 140737488355328) (hq : q.size ≤ 140737488355328) (hF : fitB S [p, q] = true) (hlen : S.fs.length < 256) (W : World) (hG : ∀ i, N.G i → i < W.heap.size) (h : DiskAt W N d S) :
    Calls Tryz.prog 35 #[.pointer (some ⟨d, 0, none⟩), .string s, .slice (some ⟨W.heap.size, 0, none⟩) 2 2] (W.alloc (.cells #[.string p, .string q] 9)) fun e w' => e = .returned (.int .i64 (stepE S)) ∧ DiskAt w' N d (stepS (layS S s.data.toList [p, q])) ∧ DUpd N W w' :=
  (append_ok N d S s hon hok [p, q] (by intro x hx; simp at hx; rcases hx with rfl | rfl <;> assumption) (by simp) _ 2 _ (h.alloc _) (strs_two W N p q) hF hlen (fun i gi => by have := hG i gi; simp; omega)).mono fun _ _ ⟨h1, h2, h3⟩ => ⟨h1, h2, ((DUpd.refl N W).alloc _).trans h3⟩
theorem appF (N : Lo) (d : Nat) (S : Dk) (s p : ByteArray) (hon : S.on = true) (hok : nameOk s = true) (hp : p.size ≤ 140737488355328) (hF : fitB S [p] = false) (hlen : S.fs.length < 256) (W : World) (h : DiskAt W N d S) :
    Calls Tryz.prog 35 #[.pointer (some ⟨d, 0, none⟩), .string s, .slice (some ⟨W.heap.size, 0, none⟩) 1 1] (W.alloc (.cells #[.string p] 9)) fun e w' => e = .returned (.int .i64 22) ∧ DiskAt w' N d S ∧ DUpd N W w' :=
  (append_full N d S s hon hok [p] (by simpa using hp) (by simp) _ 1 _ (h.alloc _) (strs_one W N p) hF hlen).mono fun _ _ ⟨h1, h2⟩ => ⟨h1, (h.alloc _).below h2, ((DUpd.refl N W).alloc _).trans (DUpd.ofBelow h2)⟩
theorem appB (N : Lo) (d : Nat) (S : Dk) (s p : ByteArray) (hs : s.size < 9223372036854775808) (hE : ¬ namedE S [s] = 0) (W : World) (h : DiskAt W N d S) :
    Calls Tryz.prog 35 #[.pointer (some ⟨d, 0, none⟩), .string s, .slice (some ⟨W.heap.size, 0, none⟩) 1 1] (W.alloc (.cells #[.string p] 9)) fun e w' => e = .returned (.int .i64 (namedE S [s])) ∧ DiskAt w' N d S ∧ DUpd N W w' :=
  (append_bad N d S s hs _ 1 1 _ (h.alloc _) hE).mono fun _ _ ⟨h1, h2⟩ => ⟨h1, (h.alloc _).below h2, ((DUpd.refl N W).alloc _).trans (DUpd.ofBelow h2)⟩
theorem sync1 (N : Lo) (d : Nat) (S : Dk) (s : ByteArray) (hs : s.size < 9223372036854775808) (W : World) (h : DiskAt W N d S) :
    Calls Tryz.prog 173 #[.pointer (some ⟨d, 0, none⟩), .slice (some ⟨W.heap.size, 0, none⟩) 1 1] (W.alloc (.cells #[.string s] 9)) fun e w' => e = .returned (.int .i64 (eachE S s)) ∧ DiskAt w' N d (eachS (fun S' => syncS S' s.data.toList) S s) ∧ DUpd N W w' :=
  (sync_one N d S s hs _ 1 _ (h.alloc _) (strs_one W N s)).mono fun _ _ ⟨h1, h2, h3⟩ => ⟨h1, h2, ((DUpd.refl N W).alloc _).trans h3⟩
theorem remove1 (N : Lo) (d : Nat) (S : Dk) (s : ByteArray) (hs : s.size < 9223372036854775808) (W : World) (h : DiskAt W N d S) :
    Calls Tryz.prog 92 #[.pointer (some ⟨d, 0, none⟩), .slice (some ⟨W.heap.size, 0, none⟩) 1 1] (W.alloc (.cells #[.string s] 9)) fun e w' => e = .returned (.int .i64 (eachE S s)) ∧ DiskAt w' N d (eachS (fun S' => dropS S' s.data.toList) S s) ∧ DUpd N W w' :=
  (remove_one N d S s hs _ 1 _ (h.alloc _) (strs_one W N s)).mono fun _ _ ⟨h1, h2, h3⟩ => ⟨h1, h2, ((DUpd.refl N W).alloc _).trans h3⟩
theorem ints_one (w : World) (N : Lo) (p : Int) : IntsAt (w.alloc (.cells #[.int .i64 p] 3)) N (some ⟨w.heap.size, 0, none⟩) [p] := by
  have h : Holds (w.alloc (.cells #[.int .i64 p] 3)) w.heap.size [.int .i64 p] 3 := holds_new w [.int .i64 p] 3
  refine .inr ⟨w.heap.size, 0, rfl, h.lt, .inr (h.foreign (by decide) (by decide) (by decide)), fun i x hi => ?_⟩
  match i, hi with
  | 0, hi => simp at hi; subst hi; exact h.at 0 _ rfl
  | i + 1, hi => simp at hi
theorem crashOne (N : Lo) (d : Nat) (S : Dk) (p : Int) (hp : -9223372036854775808 ≤ p ∧ p < 9223372036854775808) (W : World) (h : DiskAt W N d S) :
    Calls Tryz.prog 31 #[.pointer (some ⟨d, 0, none⟩), .slice (some ⟨W.heap.size, 0, none⟩) 1 1] (W.alloc (.cells #[.int .i64 p] 3)) fun e w' => e = .returned (.tuple #[]) ∧ DiskAt w' N d (crashS S [p]) ∧ DUpd N W w' :=
  (crash_some N d S [p] (by simpa using hp) _ 1 (by simp) (by unfold maxLen; omega) _ (h.alloc _) (ints_one W N p)).mono fun _ _ ⟨h1, h2, h3⟩ => ⟨h1, h2, ((DUpd.refl N W).alloc _).trans h3⟩
theorem crashNone (N : Lo) (d : Nat) (S : Dk) (W : World) (h : DiskAt W N d S) :
    Calls Tryz.prog 31 #[.pointer (some ⟨d, 0, none⟩), .slice none 0 0] W fun e w' => e = .returned (.tuple #[]) ∧ DiskAt w' N d (crashS S []) ∧ DUpd N W w' :=
  crash_some N d S [] (by simp) none 0 (by simp) (by unfold maxLen; omega) W h (.inl rfl)

/-! The document's own examples. -/
theorem ext_head (s : ByteArray) (n : Nat) : (s.extract 0 n).data.toList = s.data.toList.take n := by
  simp
theorem preS_iff (p s : ByteArray) : preS p s = true ↔ p.data.toList <+: s.data.toList := by
  unfold preS
  rw [Bool.and_eq_true, decide_eq_true_eq, beq_iff_eq, Go.ByteArray.toList_eq, Go.ByteArray.toList_eq, ext_head, List.prefix_iff_eq_take]
  show _ ↔ _ = List.take p.size _
  refine ⟨fun h => h.2.symm, fun h => ⟨?_, h.symm⟩⟩
  have h2 : p.data.toList.length ≤ s.data.toList.length := by rw [h, List.length_take]; exact Nat.min_le_right _ _
  exact h2
theorem preS_none (s : ByteArray) : preS ⟨#[]⟩ s = true := (preS_iff _ s).2 List.nil_prefix
end Go.Proofs.YtfmmholkeadejaaGreatDoor
