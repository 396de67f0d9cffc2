/- Sync, Remove, Rename, each of one file. -/
import Derived.Test.YthaknjbcmflegaaEach
namespace Go.Proofs.Ythaknjbcmflegaa
open Go.RowKit Go.Maps Go.WideMaps

theorem each_nil (a : Option Addr) (n c : Nat) (fn : Fn) (x y : Array Value) (w : World) : Calls Try.prog 51 #[.pointer none, .slice a n c, .func fn x y] w fun e w' => e = .returned (.int .i64 23) ∧ w' = w := by
  go_enter Try.func51, Try.ntmps51
  go_wp2
  go_ret
  exact ⟨rfl, rfl⟩
theorem sync_nil (a : Option Addr) (n c : Nat) (w : World) : Calls Try.prog 20 #[.pointer none, .slice a n c] w fun e w' => e = .returned (.int .i64 23) ∧ Below w.heap.size w w' := by
  have hmf : ∀ (fn : Fn) (first cap : Array Value) (w : World), (Instr.makeFunc fn first cap).run Try.prog w = .ok (.func fn first cap) w := fun _ _ _ _ => rfl
  go_enter Try.func20, Try.ntmps20
  go_wp2_with (go_at_call 51; refine (each_nil _ _ _ _ _ _ _).mono ?_; rintro e w2 ⟨rfl, rfl⟩)
  go_ret
  exact ⟨rfl, (Below.refl _ _).alloc (Nat.le_refl _) _⟩
theorem remove_nil (a : Option Addr) (n c : Nat) (w : World) : Calls Try.prog 22 #[.pointer none, .slice a n c] w fun e w' => e = .returned (.int .i64 23) ∧ Below w.heap.size w w' := by
  have hmf : ∀ (fn : Fn) (first cap : Array Value) (w : World), (Instr.makeFunc fn first cap).run Try.prog w = .ok (.func fn first cap) w := fun _ _ _ _ => rfl
  go_enter Try.func22, Try.ntmps22
  go_wp2_with (go_at_call 51; refine (each_nil _ _ _ _ _ _ _).mono ?_; rintro e w2 ⟨rfl, rfl⟩)
  go_ret
  exact ⟨rfl, (Below.refl _ _).alloc (Nat.le_refl _) _⟩
theorem rename_nil (s t : ByteArray) (w : World) : Calls Try.prog 21 #[.pointer none, .string s, .string t] w fun e w' => e = .returned (.int .i64 23) ∧ Below w.heap.size w w' := by
  go_enter Try.func21, Try.ntmps21
  go_wp2_with (go_at_call 46; refine (named_nil _ _ _ _).mono ?_; rintro e w2 ⟨rfl, rfl⟩)
  go_ret
  exact ⟨rfl, (((((Below.refl _ _).alloc (Nat.le_refl _) _).alloc (by simp) _).alloc (by simp; omega) _).alloc (by simp; omega) _)⟩
theorem sync_one (N d : Nat) (S : Dk) (s : ByteArray) (hs : s.size < 9223372036854775808) (a : Option Addr) (c : Nat) (w : World) (h : DiskAt w N d S) (ha : StrsAt w N a [s]) :
    Calls Try.prog 20 #[.pointer (some ⟨d, 0, none⟩), .slice a 1 c] w fun e w' => e = .returned (.int .i64 (eachE S s)) ∧ DiskAt w' N d (eachS (fun S' => syncS S' s.data.toList) S s) ∧ DUpd N w w' := by
  have hmf : ∀ (fn : Fn) (first cap : Array Value) (w : World), (Instr.makeFunc fn first cap).run Try.prog w = .ok (.func fn first cap) w := fun _ _ _ _ => rfl
  have hu : DUpd N w (w.alloc (.cells #[.pointer (some ⟨d, 0, none⟩)] 24)) := (DUpd.refl N w).alloc _
  have hx : Holds (w.alloc (.cells #[.pointer (some ⟨d, 0, none⟩)] 24)) w.heap.size [.pointer (some ⟨d, 0, none⟩)] 24 := holds_new w [.pointer (some ⟨d, 0, none⟩)] 24
  have he : Hid (Calls Try.prog 51 #[.pointer (some ⟨d, 0, none⟩), .slice a 1 c, .func (.func 52) #[] #[.pointer (some ⟨w.heap.size, 0, none⟩)]] (w.alloc (.cells #[.pointer (some ⟨d, 0, none⟩)] 24)) fun e w' => e = .returned (.int .i64 (eachE S s)) ∧ DiskAt w' N d (eachS (fun S' => syncS S' s.data.toList) S s) ∧ DUpd N (w.alloc (.cells #[.pointer (some ⟨d, 0, none⟩)] 24)) w') :=
    each_sync N d S (fun S' => syncS S' s.data.toList) s hs a c w.heap.size _ (h.alloc _) (ha.dupd hu) (fun h0 W S' hW hfs hU => by
      obtain ⟨_, hok, f, hf⟩ := found_zero h0
      exact sync_do N d S' s (nameOk_le hok) f (by rw [hfs]; exact hf) _ W hW (hx.dupd hU (by decide) (by decide) (by decide)))
  have HU : Hid (DUpd N w (w.alloc (.cells #[.pointer (some ⟨d, 0, none⟩)] 24))) := hu
  generalize eachE S s = E at *
  clear h ha hx hu
  go_enter Try.func20, Try.ntmps20
  go_wp2_with (go_at_call 51; refine he.out.mono ?_; rintro e w2 ⟨rfl, d2, u2⟩)
  go_ret
  exact ⟨rfl, d2, HU.out.trans u2⟩
theorem remove_one (N d : Nat) (S : Dk) (s : ByteArray) (hs : s.size < 9223372036854775808) (a : Option Addr) (c : Nat) (w : World) (h : DiskAt w N d S) (ha : StrsAt w N a [s]) :
    Calls Try.prog 22 #[.pointer (some ⟨d, 0, none⟩), .slice a 1 c] w fun e w' => e = .returned (.int .i64 (eachE S s)) ∧ DiskAt w' N d (eachS (fun S' => dropS S' s.data.toList) S s) ∧ DUpd N w w' := by
  have hmf : ∀ (fn : Fn) (first cap : Array Value) (w : World), (Instr.makeFunc fn first cap).run Try.prog w = .ok (.func fn first cap) w := fun _ _ _ _ => rfl
  have hu : DUpd N w (w.alloc (.cells #[.pointer (some ⟨d, 0, none⟩)] 24)) := (DUpd.refl N w).alloc _
  have hx : Holds (w.alloc (.cells #[.pointer (some ⟨d, 0, none⟩)] 24)) w.heap.size [.pointer (some ⟨d, 0, none⟩)] 24 := holds_new w [.pointer (some ⟨d, 0, none⟩)] 24
  have he : Hid (Calls Try.prog 51 #[.pointer (some ⟨d, 0, none⟩), .slice a 1 c, .func (.func 54) #[] #[.pointer (some ⟨w.heap.size, 0, none⟩)]] (w.alloc (.cells #[.pointer (some ⟨d, 0, none⟩)] 24)) fun e w' => e = .returned (.int .i64 (eachE S s)) ∧ DiskAt w' N d (eachS (fun S' => dropS S' s.data.toList) S s) ∧ DUpd N (w.alloc (.cells #[.pointer (some ⟨d, 0, none⟩)] 24)) w') :=
    each_remove N d S (fun S' => dropS S' s.data.toList) s hs a c w.heap.size _ (h.alloc _) (ha.dupd hu) (fun h0 W S' hW hfs hU => by
      obtain ⟨_, hok, f, hf⟩ := found_zero h0
      exact remove_do N d S' s (nameOk_le hok) f (by rw [hfs]; exact hf) _ W hW (hx.dupd hU (by decide) (by decide) (by decide)))
  have HU : Hid (DUpd N w (w.alloc (.cells #[.pointer (some ⟨d, 0, none⟩)] 24))) := hu
  generalize eachE S s = E at *
  clear h ha hx hu
  go_enter Try.func22, Try.ntmps22
  go_wp2_with (go_at_call 51; refine he.out.mono ?_; rintro e w2 ⟨rfl, d2, u2⟩)
  go_ret
  exact ⟨rfl, d2, HU.out.trans u2⟩

/-- The world behind the boxes of Rename, with one list more, with two. -/
def boxW (w : World) (d : Nat) (s t : ByteArray) : World := ((w.alloc (.cells #[.pointer (some ⟨d, 0, none⟩)] 24)).alloc (.cells #[.string s] 9)).alloc (.cells #[.string t] 9)
theorem box_facts (w : World) (N d : Nat) (s t : ByteArray) : DUpd N w (boxW w d s t) ∧ (boxW w d s t).heap.size = w.heap.size + 3 ∧ Holds (boxW w d s t) w.heap.size [.pointer (some ⟨d, 0, none⟩)] 24 ∧ Holds (boxW w d s t) (w.heap.size + 1) [.string s] 9 ∧ Holds (boxW w d s t) (w.heap.size + 2) [.string t] 9 := by
  refine ⟨(((DUpd.refl N w).alloc _).alloc _).alloc _, by unfold boxW; simp, ((holds_new w [.pointer (some ⟨d, 0, none⟩)] 24).alloc _).alloc _, ?_, ?_⟩
  · have := holds_new (w.alloc (.cells #[.pointer (some ⟨d, 0, none⟩)] 24)) [.string s] 9
    rw [World.size_alloc] at this
    exact this.alloc _
  · have := holds_new ((w.alloc (.cells #[.pointer (some ⟨d, 0, none⟩)] 24)).alloc (.cells #[.string s] 9)) [.string t] 9
    rw [World.size_alloc, World.size_alloc] at this
    exact this
def renE (S : Dk) (s t : ByteArray) : Int := if namedE S [s, t] = 0 then eachE S s else namedE S [s, t]
def renS (S : Dk) (s t : ByteArray) : Dk := if namedE S [s, t] = 0 then eachS (fun S' => moveS S' s.data.toList t.data.toList) S s else S
set_option maxHeartbeats 1600000 in
theorem rename_some (N d : Nat) (S : Dk) (s t : ByteArray) (hs : s.size < 9223372036854775808) (ht : t.size < 9223372036854775808) (w : World) (h : DiskAt w N d S) :
    Calls Try.prog 21 #[.pointer (some ⟨d, 0, none⟩), .string s, .string t] w fun e w' => e = .returned (.int .i64 (renE S s t)) ∧ DiskAt w' N d (renS S s t) ∧ DUpd N w w' := by
  have hmf : ∀ (fn : Fn) (first cap : Array Value) (w : World), (Instr.makeFunc fn first cap).run Try.prog w = .ok (.func fn first cap) w := fun _ _ _ _ => rfl
  obtain ⟨u0, z0, x0, x1, x2⟩ := box_facts w N d s t
  have d0 : DiskAt (boxW w d s t) N d S := h.keep (fun i hi => ((((Below.refl _ w).alloc (Nat.le_refl _) _).alloc (by simp) _).alloc (by simp; omega) _ : Below w.heap.size w (boxW w d s t)).block i hi)
  have hna : Hid (Calls Try.prog 46 #[.pointer (some ⟨d, 0, none⟩), .slice (some ⟨w.heap.size + 3, 0, none⟩) 2 2] ((boxW w d s t).alloc (.cells #[.string s, .string t] 9)) fun e w' => e = .returned (.int .i64 (namedE S [s, t])) ∧ w' = (boxW w d s t).alloc (.cells #[.string s, .string t] 9)) := by
    have h2 := strs_two (boxW w d s t) N s t
    rw [z0] at h2
    exact named_some N d S [s, t] (by intro x hx; simp at hx; rcases hx with rfl | rfl <;> assumption) (by simp) _ 2 _ (d0.alloc _) h2
  unfold boxW at hna
  have u1 : Hid (DUpd N w ((boxW w d s t).alloc (.cells #[.string s, .string t] 9))) := u0.alloc _
  by_cases h0 : namedE S [s, t] = 0
  · have e1 : renE S s t = eachE S s := by rw [renE, if_pos h0]
    have e2 : renS S s t = eachS (fun S' => moveS S' s.data.toList t.data.toList) S s := by rw [renS, if_pos h0]
    rw [e1, e2]
    have hall : nameOk t = true := by
      unfold namedE at h0
      split at h0
      · unfold namE at h0
        split at h0
        · rename_i hq
          simp at hq
          exact hq.2
        · cases h0
      · cases h0
    have hz1 : ((boxW w d s t).alloc (.cells #[.string s, .string t] 9)).heap.size = w.heap.size + 4 := by rw [World.size_alloc, z0]
    have he : Hid (Calls Try.prog 51 #[.pointer (some ⟨d, 0, none⟩), .slice (some ⟨w.heap.size + 4, 0, none⟩) 1 1, .func (.func 53) #[] #[.pointer (some ⟨w.heap.size, 0, none⟩), .pointer (some ⟨w.heap.size + 1, 0, none⟩), .pointer (some ⟨w.heap.size + 2, 0, none⟩)]] (((boxW w d s t).alloc (.cells #[.string s, .string t] 9)).alloc (.cells #[.string s] 9)) fun e w' => e = .returned (.int .i64 (eachE S s)) ∧ DiskAt w' N d (eachS (fun S' => moveS S' s.data.toList t.data.toList) S s) ∧ DUpd N (((boxW w d s t).alloc (.cells #[.string s, .string t] 9)).alloc (.cells #[.string s] 9)) w') := by
      have h2 := strs_one ((boxW w d s t).alloc (.cells #[.string s, .string t] 9)) N s
      rw [hz1] at h2
      exact each_move N d S (fun S' => moveS S' s.data.toList t.data.toList) s hs _ 1 w.heap.size (w.heap.size + 1) (w.heap.size + 2) _ ((d0.alloc _).alloc _) h2 (fun h0 W S' hW hfs hU => by
        obtain ⟨_, hok, f, hf⟩ := found_zero h0
        exact move_do N d S' s s t (nameOk_le hok) (nameOk_le hall) f (by rw [hfs]; exact hf) _ _ _ W hW (((x0.alloc _).alloc _).dupd hU (by decide) (by decide) (by decide)) (((x1.alloc _).alloc _).dupd hU (by decide) (by decide) (by decide)) (((x2.alloc _).alloc _).dupd hU (by decide) (by decide) (by decide)))
    have u2 : Hid (DUpd N w (((boxW w d s t).alloc (.cells #[.string s, .string t] 9)).alloc (.cells #[.string s] 9))) := u1.out.alloc _
    unfold boxW at he
    rw [h0] at hna
    generalize eachE S s = E at *
    clear h u0 z0 x0 x1 x2 d0 h0 e1 e2 hz1
    go_enter Try.func21, Try.ntmps21
    go_wp2_with (first
      | (go_at_call 46; refine hna.out.mono ?_; rintro e w2 ⟨rfl, rfl⟩)
      | (go_at_call 51; refine he.out.mono ?_; rintro e w3 ⟨rfl, d3, u3⟩))
    go_ret
    exact ⟨rfl, d3, u2.out.trans u3⟩
  · have e1 : renE S s t = namedE S [s, t] := by rw [renE, if_neg h0]
    have e2 : renS S s t = S := by rw [renS, if_neg h0]
    rw [e1, e2]
    have dd : Hid (DiskAt ((boxW w d s t).alloc (.cells #[.string s, .string t] 9)) N d S) := d0.alloc _
    have hne : ((namedE S [s, t]) == 0) = false := by simpa using h0
    generalize namedE S [s, t] = E at *
    clear h u0 z0 x0 x1 x2 d0 h0 e1 e2
    go_enter Try.func21, Try.ntmps21
    go_wp2_with (go_at_call 46; refine hna.out.mono ?_; rintro e w2 ⟨rfl, rfl⟩)
    go_ret
    exact ⟨rfl, dd.out, u1.out⟩
end Go.Proofs.Ythaknjbcmflegaa
