/- renew's four steps, each by itself. -/
import Derived.Test.YtfmmholkeadejaaGreatDoorZCkDisk
namespace Go.Proofs.YtfmmholkeadejaaGreatDoor
open Go.RowKit

/-- An Append of several texts: its error, and the disk behind it. -/
def laysE (S : Dk) (rs : List ByteArray) : Int := if S.on = true then (if fitB S rs = true then stepE S else 22) else 23
def laysT (S : Dk) (k : ByteArray) (rs : List ByteArray) : Dk := if S.on = true then (if fitB S rs = true then stepS (layS S k.data.toList rs) else S) else S
theorem append_all (N : Lo) (d : Nat) (S : Dk) (s : ByteArray) (rs : List ByteArray) (hok : nameOk s = true) (hr : ∀ r ∈ rs, r.size ≤ 140737488355328) (hl : rs.length < 9223372036854775808) (a : Option Addr) (c : Nat) (w : World) (h : DiskAt w N d S) (ha : StrsAt w N a rs) (hlen : S.fs.length < 256) (hG : ∀ i, N.G i → i < w.heap.size) :
    Calls Tryz.prog 35 #[.pointer (some ⟨d, 0, none⟩), .string s, .slice a rs.length c] w fun e w' => e = .returned (.int .i64 (laysE S rs)) ∧ DiskAt w' N d (laysT S s rs) ∧ DUpd N w w' := by
  by_cases hon : S.on = true
  · rw [laysE, laysT, if_pos hon, if_pos hon]
    cases hF : fitB S rs with
    | true =>
      rw [if_pos rfl, if_pos rfl]
      exact append_ok N d S s hon hok rs hr hl a c w h ha hF hlen hG
    | false =>
      rw [if_neg (by decide), if_neg (by decide)]
      exact (append_full N d S s hon hok rs hr hl a c w h ha hF hlen).mono fun _ _ ⟨e1, e2⟩ => ⟨e1, h.below e2, DUpd.ofBelow e2⟩
  · rw [laysE, laysT, if_neg hon, if_neg hon]
    have hz := nameOk_le hok
    have hE : namedE S [s] = 23 := by rw [namedE, if_neg hon]
    have := append_bad N d S s (by omega) a rs.length c w h (by rw [hE]; decide)
    rw [hE] at this
    exact this.mono fun _ _ ⟨e1, e2⟩ => ⟨e1, h.below e2, DUpd.ofBelow e2⟩
def unlE (E : Int) : Int := if E = 21 then 0 else E
theorem unless_any (E : Int) (w : World) : Calls Tryz.prog 170 #[.int .i64 E] w fun e w' => e = .returned (.int .i64 (unlE E)) ∧ w' = w := by
  by_cases h : E = 21
  · subst h
    go_enter Tryz.func170, Tryz.ntmps170
    go_wp2
    go_ret
    exact ⟨rfl, rfl⟩
  · rw [unlE, if_neg h]
    have h1 : (E == 21) = false := beq_eq_false_iff_ne.2 h
    go_enter Tryz.func170, Tryz.ntmps170
    go_wp2
    go_ret
    exact ⟨rfl, rfl⟩
def delS (S : Dk) (s : ByteArray) : Dk := eachS (fun S' => dropS S' s.data.toList) S s
theorem renew1 (N : Lo) (d bd bc : Nat) (S : Dk) (s : ByteArray) (hs : s.size < 9223372036854775808) (W : World) (h : DiskAt W N d S) (h1 : Holds W bd [.pointer (some ⟨d, 0, none⟩)] 43) (h2 : Holds W bc [.string s] 9) :
    Calls Tryz.prog 169 #[.pointer (some ⟨bd, 0, none⟩), .pointer (some ⟨bc, 0, none⟩)] W fun e w' => e = .returned (.int .i64 (unlE (eachE S s))) ∧ DiskAt w' N d (delS S s) ∧ DUpd N W w' := by
  have c1 := h1.at 0 _ rfl
  have c2 := h2.at 0 _ rfl
  have hr : Hid (Calls Tryz.prog 92 #[.pointer (some ⟨d, 0, none⟩), .slice (some ⟨W.heap.size, 0, none⟩) 1 1] (W.alloc (.cells #[.string s] 9)) fun e w' => e = .returned (.int .i64 (eachE S s)) ∧ DiskAt w' N d (delS S s) ∧ DUpd N W w') := remove1 N d S s hs W h
  have hu : Hid (∀ E W', Calls Tryz.prog 170 #[.int .i64 E] W' fun e w' => e = .returned (.int .i64 (unlE E)) ∧ w' = W') := fun E W' => unless_any E W'
  generalize eachE S s = E at *
  clear h h1 h2
  go_enter Tryz.func169, Tryz.ntmps169
  go_wp2_with (first
    | (go_at_call 170; refine (hu.out _ _).mono ?_; rintro e w2 ⟨rfl, e2⟩; rw [e2]; clear e2)
    | (go_at_call 92; refine hr.out.mono ?_; rintro e w1 ⟨rfl, d1, u1⟩))
  go_ret
  exact ⟨rfl, d1, u1⟩
theorem renew2 (N : Lo) (d bd bc bp : Nat) (S : Dk) (s : ByteArray) (rs : List ByteArray) (hok : nameOk s = true) (hr : ∀ r ∈ rs, r.size ≤ 140737488355328) (hl : rs.length < 9223372036854775808) (a : Option Addr) (c : Nat) (W : World) (h : DiskAt W N d S) (ha : StrsAt W N a rs) (hlen : S.fs.length < 256) (hG : ∀ i, N.G i → i < W.heap.size) (h1 : Holds W bd [.pointer (some ⟨d, 0, none⟩)] 43) (h2 : Holds W bc [.string s] 9) (h3 : Holds W bp [.slice a rs.length c] 108) :
    Calls Tryz.prog 171 #[.pointer (some ⟨bd, 0, none⟩), .pointer (some ⟨bc, 0, none⟩), .pointer (some ⟨bp, 0, none⟩)] W fun e w' => e = .returned (.int .i64 (laysE S rs)) ∧ DiskAt w' N d (laysT S s rs) ∧ DUpd N W w' := by
  have c1 := h1.at 0 _ rfl
  have c2 := h2.at 0 _ rfl
  have c3 := h3.at 0 _ rfl
  have hr : Hid (Calls Tryz.prog 35 #[.pointer (some ⟨d, 0, none⟩), .string s, .slice a rs.length c] W fun e w' => e = .returned (.int .i64 (laysE S rs)) ∧ DiskAt w' N d (laysT S s rs) ∧ DUpd N W w') := append_all N d S s rs hok hr hl a c W h ha hlen hG
  generalize laysE S rs = E at *
  generalize rs.length = n at *
  clear h h1 h2 h3 ha
  go_enter Tryz.func171, Tryz.ntmps171
  go_wp2_with (go_at_call 35; refine hr.out.mono ?_; rintro e w1 ⟨rfl, d1, u1⟩)
  go_ret
  exact ⟨rfl, d1, u1⟩
theorem renew3 (N : Lo) (d bd bc : Nat) (S : Dk) (s : ByteArray) (hs : s.size < 9223372036854775808) (W : World) (h : DiskAt W N d S) (h1 : Holds W bd [.pointer (some ⟨d, 0, none⟩)] 43) (h2 : Holds W bc [.string s] 9) :
    Calls Tryz.prog 172 #[.pointer (some ⟨bd, 0, none⟩), .pointer (some ⟨bc, 0, none⟩)] W fun e w' => e = .returned (.int .i64 (eachE S s)) ∧ DiskAt w' N d (setS S s) ∧ DUpd N W w' := by
  have c1 := h1.at 0 _ rfl
  have c2 := h2.at 0 _ rfl
  have hr : Hid (Calls Tryz.prog 173 #[.pointer (some ⟨d, 0, none⟩), .slice (some ⟨W.heap.size, 0, none⟩) 1 1] (W.alloc (.cells #[.string s] 9)) fun e w' => e = .returned (.int .i64 (eachE S s)) ∧ DiskAt w' N d (setS S s) ∧ DUpd N W w') := sync1 N d S s hs W h
  generalize eachE S s = E at *
  clear h h1 h2
  go_enter Tryz.func172, Tryz.ntmps172
  go_wp2_with (go_at_call 173; refine hr.out.mono ?_; rintro e w1 ⟨rfl, d1, u1⟩)
  go_ret
  exact ⟨rfl, d1, u1⟩
theorem renew4 (N : Lo) (d bd bc bn : Nat) (S : Dk) (s t : ByteArray) (hs : s.size < 9223372036854775808) (ht : t.size < 9223372036854775808) (W : World) (h : DiskAt W N d S) (h1 : Holds W bd [.pointer (some ⟨d, 0, none⟩)] 43) (h2 : Holds W bc [.string s] 9) (h3 : Holds W bn [.string t] 9) :
    Calls Tryz.prog 174 #[.pointer (some ⟨bd, 0, none⟩), .pointer (some ⟨bc, 0, none⟩), .pointer (some ⟨bn, 0, none⟩)] W fun e w' => e = .returned (.int .i64 (renE S s t)) ∧ DiskAt w' N d (renS S s t) ∧ DUpd N W w' := by
  have c1 := h1.at 0 _ rfl
  have c2 := h2.at 0 _ rfl
  have c3 := h3.at 0 _ rfl
  have hr : Hid (Calls Tryz.prog 175 #[.pointer (some ⟨d, 0, none⟩), .string s, .string t] W fun e w' => e = .returned (.int .i64 (renE S s t)) ∧ DiskAt w' N d (renS S s t) ∧ DUpd N W w') := rename_some N d S s t hs ht W h
  generalize renE S s t = E at *
  clear h h1 h2 h3
  go_enter Tryz.func174, Tryz.ntmps174
  go_wp2_with (go_at_call 175; refine hr.out.mono ?_; rintro e w1 ⟨rfl, d1, u1⟩)
  go_ret
  exact ⟨rfl, d1, u1⟩
end Go.Proofs.YtfmmholkeadejaaGreatDoor
