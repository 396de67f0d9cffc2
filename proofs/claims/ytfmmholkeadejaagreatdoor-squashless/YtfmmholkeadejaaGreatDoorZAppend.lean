/- Append. -/
import Derived.Test.YtfmmholkeadejaaGreatDoorZCreate
namespace Go.Proofs.YtfmmholkeadejaaGreatDoor
open Go.RowKit Go.Maps Go.WideMaps

theorem put_eq {k : List UInt8} {p : List UInt8 × Fl} (h : k = p.1) (f : Fl) (r : Fs) : put k f (p :: r) = (k, f) :: r := by rw [put, if_pos h]
theorem put_lt {k : List UInt8} {p : List UInt8 × Fl} (h : ¬ k = p.1) (h2 : k < p.1) (f : Fl) (r : Fs) : put k f (p :: r) = (k, f) :: p :: r := by rw [put, if_neg h, if_pos h2]
theorem put_gt {k : List UInt8} {p : List UInt8 × Fl} (h : ¬ k = p.1) (h2 : ¬ k < p.1) (f : Fl) (r : Fs) : put k f (p :: r) = p :: put k f r := by rw [put, if_neg h, if_neg h2]
theorem put_put (k : List UInt8) (f g : Fl) : ∀ l : Fs, put k f (put k g l) = put k f l
  | [] => by rw [put, put_eq (p := (k, g)) rfl f, put]
  | p :: r => by
    by_cases h : k = p.1
    · rw [put_eq h g, put_eq (p := (k, g)) rfl f, put_eq h]
    · by_cases h2 : k < p.1
      · rw [put_lt h h2 g, put_eq (p := (k, g)) rfl f, put_lt h h2]
      · rw [put_gt h h2 g, put_gt h h2 f, put_gt h h2 f, put_put k f g r]
def oldF (S : Dk) (k : List UInt8) : Fl := match get S.fs k with | some f => f | none => ⟨[], 0⟩
/-- The disk behind an Append that has no error but the power's. -/
def layS (S : Dk) (k : List UInt8) (ps : List ByteArray) : Dk := { S with fs := put k ⟨(oldF S k).bytes ++ joins ps, (oldF S k).firm⟩ S.fs }
theorem append_nil (s : ByteArray) (a : Option Addr) (n c : Nat) (w : World) : Calls Tryz.prog 35 #[.pointer none, .string s, .slice a n c] w fun e w' => e = .returned (.int .i64 23) ∧ Below w.heap.size w w' := by
  go_enter Tryz.func35, Tryz.ntmps35
  go_wp2_with (go_at_call 77; refine (named_nil _ _ _ _).mono ?_; rintro e w2 ⟨rfl, rfl⟩)
  go_ret
  exact ⟨rfl, (Below.refl _ _).alloc (Nat.le_refl _) _⟩
theorem append_bad (N : Lo) (d : Nat) (S : Dk) (s : ByteArray) (hs : s.size < 9223372036854775808) (a : Option Addr) (n c : Nat) (w : World) (h : DiskAt w N d S) (hE : ¬ namedE S [s] = 0) :
    Calls Tryz.prog 35 #[.pointer (some ⟨d, 0, none⟩), .string s, .slice a n c] w fun e w' => e = .returned (.int .i64 (namedE S [s])) ∧ Below w.heap.size w w' := by
  have hna : Hid (Calls Tryz.prog 77 #[.pointer (some ⟨d, 0, none⟩), .slice (some ⟨w.heap.size, 0, none⟩) 1 1] (w.alloc (.cells #[.string s] 9)) fun e w' => e = .returned (.int .i64 (namedE S [s])) ∧ w' = w.alloc (.cells #[.string s] 9)) :=
    named_some N d S [s] (by simp; exact hs) (by simp) _ 1 _ (h.alloc _) (strs_one w N s)
  have hb : Hid (Below w.heap.size w (w.alloc (.cells #[.string s] 9))) := (Below.refl _ _).alloc (Nat.le_refl _) _
  have hne : ((namedE S [s]) == 0) = false := by simpa using hE
  generalize namedE S [s] = E at *
  clear h hE
  go_enter Tryz.func35, Tryz.ntmps35
  go_wp2_with (go_at_call 77; refine hna.out.mono ?_; rintro e w2 ⟨rfl, rfl⟩)
  go_ret
  exact ⟨rfl, hb.out⟩
theorem named_one {S : Dk} {s : ByteArray} (hon : S.on = true) (hok : nameOk s = true) : namedE S [s] = 0 := by rw [namedE, if_pos hon]; exact namE_ok (by simp [hok])
set_option maxHeartbeats 1600000 in
set_option maxRecDepth 100000 in
theorem append_full (N : Lo) (d : Nat) (S : Dk) (s : ByteArray) (hon : S.on = true) (hok : nameOk s = true) (ps : List ByteArray) (hps : ∀ s ∈ ps, s.size ≤ 140737488355328) (hl : ps.length < 9223372036854775808) (a : Option Addr) (c : Nat) (w : World) (h : DiskAt w N d S) (ha : StrsAt w N a ps)
    (hF : fitB S ps = false) (hlen : S.fs.length < 256) :
    Calls Tryz.prog 35 #[.pointer (some ⟨d, 0, none⟩), .string s, .slice a ps.length c] w fun e w' => e = .returned (.int .i64 22) ∧ Below w.heap.size w w' := by
  have hle := nameOk_le hok
  have hna : Hid (Calls Tryz.prog 77 #[.pointer (some ⟨d, 0, none⟩), .slice (some ⟨w.heap.size, 0, none⟩) 1 1] (w.alloc (.cells #[.string s] 9)) fun e w' => e = .returned (.int .i64 0) ∧ w' = w.alloc (.cells #[.string s] 9)) := by
    have := named_some N d S [s] (by simp; omega) (by simp) _ 1 _ (h.alloc _) (strs_one w N s)
    rw [named_one hon hok] at this
    exact this
  have hb : Hid (Below w.heap.size w (w.alloc (.cells #[.string s] 9))) := (Below.refl _ _).alloc (Nat.le_refl _) _
  have hfi : Hid (Calls Tryz.prog 78 #[.pointer (some ⟨d, 0, none⟩), .slice a ps.length c] (w.alloc (.cells #[.string s] 9)) fun e w' => e = .returned (.bool false) ∧ Below (w.heap.size + 1) (w.alloc (.cells #[.string s] 9)) w') := by
    have := fits_some N d S ps hps hl a c (w.alloc (.cells #[.string s] 9)) (h.alloc _) (ha.dupd ((DUpd.refl N w).alloc _))
    rw [hF, World.size_alloc] at this
    exact this
  obtain ⟨mv, st, A, V, ho⟩ := (h.alloc (.cells #[.string s] 9)).open
  have c0 := ho.holds.at 0 _ rfl
  have hlk := ho.map.look s (by unfold maxLen; omega)
  have hln := fun ty => ho.map.len ho.files ho.fine.rise ty
  cases hg : get S.fs s.data.toList with
  | none =>
    rw [ho.files.gone _ hg] at hlk
    simp only [tokV] at hlk
    generalize hfl : S.fs.length = fl at *
    clear ho h hps ha hF hg hfl
    go_enter Tryz.func35, Tryz.ntmps35
    go_wp2_with (first
      | (go_at_call 77; refine hna.out.mono ?_; rintro e w2 ⟨rfl, rfl⟩)
      | (go_at_call 78; refine hfi.out.mono ?_; rintro e w3 ⟨rfl, b3⟩))
    go_ret
    exact ⟨rfl, hb.out.trans (b3.mono (by omega))⟩
  | some f =>
    obtain ⟨b, hb0, _⟩ := ho.files.file _ f hg
    rw [hb0] at hlk
    simp only [tokV] at hlk
    clear ho h hps ha hF hg hb0
    go_enter Tryz.func35, Tryz.ntmps35
    go_wp2_with (first
      | (go_at_call 77; refine hna.out.mono ?_; rintro e w2 ⟨rfl, rfl⟩)
      | (go_at_call 78; refine hfi.out.mono ?_; rintro e w3 ⟨rfl, b3⟩))
    go_ret
    exact ⟨rfl, hb.out.trans (b3.mono (by omega))⟩
set_option maxHeartbeats 1600000 in
set_option maxRecDepth 100000 in
theorem append_ok (N : Lo) (d : Nat) (S : Dk) (s : ByteArray) (hon : S.on = true) (hok : nameOk s = true) (ps : List ByteArray) (hps : ∀ s ∈ ps, s.size ≤ 140737488355328) (hl : ps.length < 9223372036854775808) (a : Option Addr) (c : Nat) (w : World) (h : DiskAt w N d S) (ha : StrsAt w N a ps)
    (hF : fitB S ps = true) (hlen : S.fs.length < 256) (hG : ∀ i, N.G i → i < w.heap.size) :
    Calls Tryz.prog 35 #[.pointer (some ⟨d, 0, none⟩), .string s, .slice a ps.length c] w fun e w' => e = .returned (.int .i64 (stepE S)) ∧ DiskAt w' N d (stepS (layS S s.data.toList ps)) ∧ DUpd N w w' := by
  have hle := nameOk_le hok
  have hna : Hid (Calls Tryz.prog 77 #[.pointer (some ⟨d, 0, none⟩), .slice (some ⟨w.heap.size, 0, none⟩) 1 1] (w.alloc (.cells #[.string s] 9)) fun e w' => e = .returned (.int .i64 0) ∧ w' = w.alloc (.cells #[.string s] 9)) := by
    have := named_some N d S [s] (by simp; omega) (by simp) _ 1 _ (h.alloc _) (strs_one w N s)
    rw [named_one hon hok] at this
    exact this
  have hfi : Hid (Calls Tryz.prog 78 #[.pointer (some ⟨d, 0, none⟩), .slice a ps.length c] (w.alloc (.cells #[.string s] 9)) fun e w' => e = .returned (.bool true) ∧ Below (w.alloc (.cells #[.string s] 9)).heap.size (w.alloc (.cells #[.string s] 9)) w') := by
    have := fits_some N d S ps hps hl a c (w.alloc (.cells #[.string s] 9)) (h.alloc _) (ha.dupd ((DUpd.refl N w).alloc _))
    rw [hF] at this
    exact this
  have hu1 : Hid (∀ W, Below (w.alloc (.cells #[.string s] 9)).heap.size (w.alloc (.cells #[.string s] 9)) W → DUpd N w W ∧ DiskAt W N d S ∧ StrsAt W N a ps) := fun W hW => by
    have u : DUpd N w W := ((DUpd.refl N w).alloc _).trans (DUpd.ofBelow hW)
    exact ⟨u, (h.alloc _).below hW, ha.dupd u⟩
  have hfit : used S.fs + lens ps ≤ 16777216 := by
    have h1 : used S.fs + lens ps ≤ S.room := of_decide_eq_true hF
    obtain ⟨_, _, _, _, ho⟩ := h.open
    have := ho.fine.room
    omega
  have hfine : Hid S.Fine := by
    obtain ⟨_, _, _, _, ho⟩ := h.open
    exact ho.fine.toFine
  obtain ⟨mv, st, A, V, ho⟩ := (h.alloc (.cells #[.string s] 9)).open
  have c0 := ho.holds.at 0 _ rfl
  have hlk := ho.map.look s (by unfold maxLen; omega)
  have hln := fun ty => ho.map.len ho.files ho.fine.rise ty
  have hstE : stepE (layS S s.data.toList ps) = stepE S := rfl
  have hstep : Hid (∀ W, DiskAt W N d (layS S s.data.toList ps) → Calls Tryz.prog 81 #[.pointer (some ⟨d, 0, none⟩)] W fun e w' => e = .returned (.int .i64 (stepE S)) ∧ DiskAt w' N d (stepS (layS S s.data.toList ps)) ∧ DUpd N W w') := fun W hW => step_some N d _ W hW
  clear hstE
  have HL : Hid (ps.length < 9223372036854775808) := hl
  cases hg : get S.fs s.data.toList with
  | none =>
    have hlayS : Hid ({ S with fs := put s.data.toList ⟨([] : List UInt8) ++ joins ps, 0⟩ (put s.data.toList ⟨[], 0⟩ S.fs) } = layS S s.data.toList ps) := by
      show _ = _
      rw [put_put, layS, oldF, hg]
    have hcr : Hid (∀ W, DUpd N w W → DiskAt W N d S → Calls Tryz.prog 79 #[.pointer (some ⟨d, 0, none⟩), .string s] W fun e w' => ∃ b, e = .returned (.pointer (some ⟨b, 0, none⟩)) ∧ DiskFile w' N d { S with fs := put s.data.toList ⟨[], 0⟩ S.fs } s.data.toList b ∧ DUpd N W w') := fun W u hW => create_some N d S s hle W hW hg hlen (fun i gi => Nat.lt_of_lt_of_le (hG i gi) u.size)
    have hly : Hid (∀ W b, DiskFile W N d { S with fs := put s.data.toList ⟨[], 0⟩ S.fs } s.data.toList b → StrsAt W N a ps → Calls Tryz.prog 80 #[.pointer (some ⟨b, 0, none⟩), .slice a ps.length c] W fun e w' => e = .returned (.tuple #[]) ∧ DiskAt w' N d (layS S s.data.toList ps) ∧ DUpd N W w') := fun W b hW hA => by
      have hup := used_put hfine.out.rise s.data.toList ⟨[], 0⟩
      rw [lenAt_none hg] at hup
      simp only [List.length_nil, Nat.add_zero] at hup
      have := lay_file N d b { S with fs := put s.data.toList ⟨[], 0⟩ S.fs } s.data.toList ⟨[], 0⟩ ps a c W hW (by show get (put s.data.toList ⟨[], 0⟩ S.fs) s.data.toList = _; rw [get_put, if_pos rfl]) hA (by show used (put s.data.toList ⟨[], 0⟩ S.fs) + lens ps ≤ 16777216; omega) hl
      refine this.mono fun e w' ⟨h1, h2, h3⟩ => ⟨h1, ?_, h3⟩
      have h4 := h2.disk
      rw [← hlayS.out]
      exact h4
    rw [ho.files.gone _ hg] at hlk
    simp only [tokV] at hlk
    generalize hfl : S.fs.length = fl at *
    generalize hpl : ps.length = pl at *
    generalize stepE S = E at *
    clear ho h hps ha hF hg hfl hpl hl
    go_enter Tryz.func35, Tryz.ntmps35
    go_wp2_with (first
      | (go_at_call 77; refine hna.out.mono ?_; rintro e w2 ⟨rfl, rfl⟩)
      | (go_at_call 78; refine hfi.out.mono ?_; rintro e w3 ⟨rfl, b3⟩; obtain ⟨u3, d3, s3⟩ := hu1.out w3 b3)
      | (go_at_call 79; refine (hcr.out _ u3 d3).mono ?_; rintro e w4 ⟨b4, rfl, d4, u4⟩; have s4 := s3.dupd u4)
      | (go_at_call 80; refine (hly.out _ b4 d4 s4).mono ?_; rintro e w5 ⟨rfl, d5, u5⟩)
      | (go_at_call 81; refine (hstep.out _ d5).mono ?_; rintro e w6 ⟨rfl, d6, u6⟩))
    go_ret
    exact ⟨rfl, d6, ((u3.trans u4).trans u5).trans u6⟩
  | some f =>
    obtain ⟨b, hb0, _⟩ := ho.files.file _ f hg
    have hlayS : Hid ({ S with fs := put s.data.toList ⟨f.bytes ++ joins ps, f.firm⟩ S.fs } = layS S s.data.toList ps) := by
      show _ = _
      rw [layS, oldF, hg]
    have hly : Hid (∀ W, Below (w.alloc (.cells #[.string s] 9)).heap.size (w.alloc (.cells #[.string s] 9)) W → StrsAt W N a ps → Calls Tryz.prog 80 #[.pointer (some ⟨b, 0, none⟩), .slice a ps.length c] W fun e w' => e = .returned (.tuple #[]) ∧ DiskAt w' N d (layS S s.data.toList ps) ∧ DUpd N W w') := fun W hW hA => by
      have hDF : DiskFile W N d S s.data.toList b := ⟨mv, st, A, V, ho.keep hW.block, hb0⟩
      refine (lay_file N d b S s.data.toList f ps a c W hDF hg hA hfit hl).mono fun e w' ⟨h1, h2, h3⟩ => ⟨h1, ?_, h3⟩
      have h4 := h2.disk
      rw [← hlayS.out]
      exact h4
    rw [hb0] at hlk
    simp only [tokV] at hlk
    generalize hpl : ps.length = pl at *
    generalize stepE S = E at *
    clear ho h hps ha hF hg hb0 hpl hl
    go_enter Tryz.func35, Tryz.ntmps35
    go_wp2_with (first
      | (go_at_call 77; refine hna.out.mono ?_; rintro e w2 ⟨rfl, rfl⟩)
      | (go_at_call 78; refine hfi.out.mono ?_; rintro e w3 ⟨rfl, b3⟩; obtain ⟨u3, d3, s3⟩ := hu1.out w3 b3)
      | (go_at_call 80; refine (hly.out _ b3 s3).mono ?_; rintro e w5 ⟨rfl, d5, u5⟩)
      | (go_at_call 81; refine (hstep.out _ d5).mono ?_; rintro e w6 ⟨rfl, d6, u6⟩))
    go_ret
    exact ⟨rfl, d6, (u3.trans u5).trans u6⟩
end Go.Proofs.YtfmmholkeadejaaGreatDoor
