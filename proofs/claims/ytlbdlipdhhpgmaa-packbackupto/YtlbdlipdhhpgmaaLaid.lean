/- The statement's lay, by a writer. -/
import Derived.Test.YtlbdlipdhhpgmaaThing
namespace Go.Proofs.Ytlbdlipdhhpgmaa
open Go.RowKit

/-- The bytes of a thing. -/
def thL (k : Int) (n : Nat) (s : ByteArray) : List UInt8 :=
  if k = 1 then numL (zig (wrap64 (n : Int))) else if k = 2 then flagL ((n : Int) % 2 == 1) else if k = 3 then textL s else if k = 4 then rawL s else numL n
theorem wrap64_fits (n : Int) : -9223372036854775808 ≤ wrap64 n ∧ wrap64 n < 9223372036854775808 := by
  unfold wrap64
  omega

set_option maxHeartbeats 1600000 in
set_option maxRecDepth 100000 in
theorem lay_some (B : Nat) (bs : List UInt8) (k l : Int) (n : Nat) (hn : n < 18446744073709551616) (s : ByteArray) (w : World) (hw : Wr w B bs) (hl : bs.length + (thL k n s).length + 10 ≤ 140737488355328) :
    Calls Try.prog 10 #[.pointer (some ⟨B, 0, none⟩), .agg #[.int .i64 k, .int .i64 l, .int .u64 (n : Int), .string s]] w fun e w' => e = .returned (.tuple #[]) ∧ Wr w' B (bs ++ thL k n s) ∧ WUpd B w w' := by
  obtain ⟨m, hm⟩ : ∃ m, w.heap.size = m := ⟨_, rfl⟩
  have hB := hw.lt
  have hW1 : Wr (w.alloc (.cells #[.int .i64 k, .int .i64 l, .int .u64 (n : Int), .string s] 33)) B bs := hw.alloc _
  have hz1 : (w.alloc (.cells #[.int .i64 k, .int .i64 l, .int .u64 (n : Int), .string s] 33)).heap.size = m + 1 := by simp [hm]
  have hu1 : WUpd B w (w.alloc (.cells #[.int .i64 k, .int .i64 l, .int .u64 (n : Int), .string s] 33)) := WUpd.ofBelow (by omega) ((Below.refl _ _).alloc (Nat.le_refl _) _)
  by_cases h1 : k = 1
  · subst h1
    rw [thL, if_pos rfl] at hl ⊢
    have con : Hid (Calls Try.prog 28 #[.pointer (some ⟨B, 0, none⟩), .slice (some ⟨m + 1, 0, none⟩) 1 1] ((w.alloc (.cells #[.int .i64 1, .int .i64 l, .int .u64 (n : Int), .string s] 33)).alloc (.cells #[.int .i64 (wrap64 (n : Int))] 2)) fun e w' => e = .returned (.pointer (some ⟨B, 0, none⟩)) ∧ Wr w' B (bs ++ numL (zig (wrap64 (n : Int)))) ∧ WUpd B (w.alloc (.cells #[.int .i64 1, .int .i64 l, .int .u64 (n : Int), .string s] 33)) w') :=
      wints_one B bs (wrap64 (n : Int)) (wrap64_fits _) _ (m + 1) hz1 hW1 hl
    clear hl
    go_enter Try.func10, Try.ntmps10
    go_wp2_with (go_at_call 28; refine con.out.mono ?_; rintro e w2 ⟨rfl, h2, u2⟩)
    all_goals exact bodyPost_end (results_none (by kernel_rfl) _ _ _) rfl ⟨rfl, h2, hu1.trans u2⟩
  by_cases h2 : k = 2
  · subst h2
    rw [thL, if_neg (by decide), if_pos rfl] at hl ⊢
    have con : Hid (Calls Try.prog 29 #[.pointer (some ⟨B, 0, none⟩), .slice (some ⟨m + 1, 0, none⟩) 1 1] ((w.alloc (.cells #[.int .i64 2, .int .i64 l, .int .u64 (n : Int), .string s] 33)).alloc (.cells #[.bool ((n : Int) % 2 == 1)] 4)) fun e w' => e = .returned (.pointer (some ⟨B, 0, none⟩)) ∧ Wr w' B (bs ++ flagL ((n : Int) % 2 == 1)) ∧ WUpd B (w.alloc (.cells #[.int .i64 2, .int .i64 l, .int .u64 (n : Int), .string s] 33)) w') :=
      wflags_one B bs ((n : Int) % 2 == 1) trivial _ (m + 1) hz1 hW1 hl
    clear hl
    go_enter Try.func10, Try.ntmps10
    go_wp2_with (go_at_call 29; refine con.out.mono ?_; rintro e w2 ⟨rfl, h2, u2⟩)
    all_goals exact bodyPost_end (results_none (by kernel_rfl) _ _ _) rfl ⟨rfl, h2, hu1.trans u2⟩
  by_cases h3 : k = 3
  · subst h3
    rw [thL, if_neg (by decide), if_neg (by decide), if_pos rfl] at hl ⊢
    have con : Hid (Calls Try.prog 13 #[.pointer (some ⟨B, 0, none⟩), .slice (some ⟨m + 1, 0, none⟩) 1 1] ((w.alloc (.cells #[.int .i64 3, .int .i64 l, .int .u64 (n : Int), .string s] 33)).alloc (.cells #[.string s] 9)) fun e w' => e = .returned (.pointer (some ⟨B, 0, none⟩)) ∧ Wr w' B (bs ++ textL s) ∧ WUpd B (w.alloc (.cells #[.int .i64 3, .int .i64 l, .int .u64 (n : Int), .string s] 33)) w') :=
      wtexts_one B bs s trivial _ (m + 1) hz1 hW1 hl
    clear hl
    go_enter Try.func10, Try.ntmps10
    go_wp2_with (go_at_call 13; refine con.out.mono ?_; rintro e w2 ⟨rfl, h2, u2⟩)
    all_goals exact bodyPost_end (results_none (by kernel_rfl) _ _ _) rfl ⟨rfl, h2, hu1.trans u2⟩
  by_cases h4 : k = 4
  · subst h4
    rw [thL, if_neg (by decide), if_neg (by decide), if_neg (by decide), if_pos rfl] at hl ⊢
    have con : Hid (Calls Try.prog 30 #[.pointer (some ⟨B, 0, none⟩), .slice (some ⟨m + 1, 0, none⟩) 1 1] ((w.alloc (.cells #[.int .i64 4, .int .i64 l, .int .u64 (n : Int), .string s] 33)).alloc (.cells #[.string s] 9)) fun e w' => e = .returned (.pointer (some ⟨B, 0, none⟩)) ∧ Wr w' B (bs ++ rawL s) ∧ WUpd B (w.alloc (.cells #[.int .i64 4, .int .i64 l, .int .u64 (n : Int), .string s] 33)) w') :=
      wraws_one B bs s trivial _ (m + 1) hz1 hW1 hl
    clear hl
    go_enter Try.func10, Try.ntmps10
    go_wp2_with (go_at_call 30; refine con.out.mono ?_; rintro e w2 ⟨rfl, h2, u2⟩)
    all_goals exact bodyPost_end (results_none (by kernel_rfl) _ _ _) rfl ⟨rfl, h2, hu1.trans u2⟩
  · rw [thL, if_neg h1, if_neg h2, if_neg h3, if_neg h4] at hl ⊢
    have con : Hid (Calls Try.prog 12 #[.pointer (some ⟨B, 0, none⟩), .slice (some ⟨m + 1, 0, none⟩) 1 1] ((w.alloc (.cells #[.int .i64 k, .int .i64 l, .int .u64 (n : Int), .string s] 33)).alloc (.cells #[.int .u64 (n : Int)] 31)) fun e w' => e = .returned (.pointer (some ⟨B, 0, none⟩)) ∧ Wr w' B (bs ++ numL n) ∧ WUpd B (w.alloc (.cells #[.int .i64 k, .int .i64 l, .int .u64 (n : Int), .string s] 33)) w') :=
      wnums_one B bs n hn _ (m + 1) hz1 hW1 hl
    clear hl
    go_enter Try.func10, Try.ntmps10
    go_wp2_with (go_at_call 12; refine con.out.mono ?_; rintro e w2 ⟨rfl, h2, u2⟩)
    all_goals exact bodyPost_end (results_none (by kernel_rfl) _ _ _) rfl ⟨rfl, h2, hu1.trans u2⟩
end Go.Proofs.Ytlbdlipdhhpgmaa
