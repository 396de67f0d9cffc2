/- The function of the statement TreeNil, called with whatever text and number, answers true; nothing that was there is turned. -/
import Derived.Test.YtbfadapffpijpaaDoorTrWake
namespace Go.Proofs.YtbfadapffpijpaaDoor
open Go.RowKit Go.Maps Go.WideMaps
attribute [local go_sem ↓] rule_eql rule_neq rule_eqlD rule_neqD rule26

def one1 : List UInt8 := 1 :: List.replicate 31 0
theorem built1 : Tryd.prog.built 26 [(0, .int .u8 1)] = some (one1.map byteV).toArray := by kernel_rfl
theorem lenT_new : lenT (reckT newT) = 0 := by
  have e : (reckT newT).lv = List.replicate 256 [] := rfl
  unfold lenT
  rw [e, List.map_replicate]
  decide +kernel
set_option maxHeartbeats 4000000 in
set_option maxRecDepth 100000 in
theorem treeNil_walk (s : ByteArray) (k : Int) (w : World) (hL : Laid w) : Calls Tryd.prog 3 #[.string s, .int .i64 k] w fun e w' => e = .returned (.bool true) ∧ Below w.heap.size w w' := by
  obtain ⟨n, hn⟩ : ∃ n, w.heap.size = n := ⟨_, rfl⟩
  have hwake : Hid (∀ W, Laid W → Calls Tryd.prog 9 #[] W fun e w' => e = .returned (.bool true) ∧ Below W.heap.size W w') := fun W hW => wake_any W hW
  have S0 : Same32 (.agg ((rootH newT).map byteV).toArray) (.agg ((rootH newT).map byteV).toArray) := same32 _ (shaL_len _)
  have S1 : Same32 (.agg (zero32.map byteV).toArray) (.agg #[.int .u8 0, .int .u8 0, .int .u8 0, .int .u8 0, .int .u8 0, .int .u8 0, .int .u8 0, .int .u8 0, .int .u8 0, .int .u8 0, .int .u8 0, .int .u8 0, .int .u8 0, .int .u8 0, .int .u8 0, .int .u8 0, .int .u8 0, .int .u8 0, .int .u8 0, .int .u8 0, .int .u8 0, .int .u8 0, .int .u8 0, .int .u8 0, .int .u8 0, .int .u8 0, .int .u8 0, .int .u8 0, .int .u8 0, .int .u8 0, .int .u8 0, .int .u8 0]) := ⟨zero32, rfl, rfl, rfl⟩
  rw [hn]
  go_enter Tryd.func3, Tryd.ntmps3
  go_wp2_with (first
    | (refine wpList_build_none rfl 32 rfl (treeV noMaps newT).toArray built32 ?_)
    | (refine wpList_box_new 9 rfl rfl 32 _ rfl n hn (treeV noMaps newT) rfl ?_; intro w1 h1)
    | (go_at_call 6; refine (tnew_any w1).mono ?_; rw [h1.size]; rintro e w2 ⟨rfl, h2⟩; have D2 : Duo w n w2 n (n + 1) newT newT := duo_new hL h1 h2)
    | (refine wpList_build_at rfl 26 [(0, .const (.int .u8 1))] rfl (one1.map byteV).toArray built1 ?_)
    | (go_at_call 7; refine (put_nil _ _ w2 ⟨s, rfl⟩ ⟨one1, rfl, rfl⟩).mono ?_; rintro e w3 ⟨rfl, b3⟩; have D3 := D2.ofBelow b3; have D4 : Duo w n (w3.alloc (.cells #[.string s] 9)) n (n + 1) newT newT := D3.ofBelow ((Below.refl _ _).alloc (Nat.le_refl _) _))
    | (go_at_call 8; refine (delete_nil _ _).mono ?_; rintro e w5 ⟨rfl, rfl⟩)
    | (go_at_call 9; refine (hwake.out _ D4.laid).mono ?_; rintro e w6 ⟨rfl, b6⟩; have D6 := D4.ofBelow b6)
    | (go_at_call_of 10 (Value.pointer none); refine (root_nil w6).mono ?_; rintro e w7 ⟨rfl, b7⟩; have D7 := D6.ofBelow b7; have D8 : Duo w n (w7.alloc (.cells #[.int .i64 1] 3)) n (n + 1) newT newT := D7.ofBelow ((Below.refl _ _).alloc (Nat.le_refl _) _))
    | (refine wpList_build_none rfl 26 rfl (zero32.map byteV).toArray built26 ?_)
    | (go_at_call 11; refine (level_nil _ _).mono ?_; rintro e w8 ⟨rfl, rfl⟩)
    | (go_at_call 12; refine (keys_nil _ _).mono ?_; rintro e w9 ⟨rfl, rfl⟩)
    | (go_at_call_of 13 (Value.pointer none); refine (len_none _).mono ?_; rintro e w10 ⟨rfl, rfl⟩)
    | (go_at_call 14; refine (dirty_none _).mono ?_; rintro e w11 ⟨rfl, rfl⟩))
  go_wp2_with (first
    | (go_at_call_of 10 (Value.pointer (some ⟨n, 0, none⟩)); refine (D8.root fit0).mono ?_; rintro e w12 ⟨rfl, D12, f12⟩)
    | (go_at_call 10; refine (D12.swap.root fit0).mono ?_; rintro e w13 ⟨rfl, D13x, f13⟩; have D13 := D13x.swap; have lc := D13.len fit0r; rw [lenT_new] at lc)
    | (go_at_call 13; refine lc.mono ?_; rintro e w14 ⟨rfl, rfl⟩))
  go_ret
  exact ⟨rfl, D13.below⟩
end Go.Proofs.YtbfadapffpijpaaDoor
