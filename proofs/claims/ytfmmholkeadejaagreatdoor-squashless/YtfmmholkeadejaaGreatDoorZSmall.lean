/- The small calls: of a disk's fields, of a file. -/
import Derived.Deep.RegionWith
import Derived.Laws.BytesString
import Derived.Test.YtfmmholkeadejaaGreatDoorZD1
namespace Go.Proofs.YtfmmholkeadejaaGreatDoor
open Go.RowKit Go.Maps Go.WideMaps

def strL (l : List UInt8) : ByteArray := ⟨l.toArray⟩
theorem strL_list (l : List UInt8) : (strL l).data.toList = l := rfl
theorem und5 : Tryz.prog.underlying 5 = some (.int .u8) := by kernel_rfl
theorem und61 : Tryz.prog.underlying 61 = some (.slice 5) := by kernel_rfl
theorem strL_size (l : List UInt8) : (strL l).size = l.length := rfl
theorem str_nums (l : List UInt8) : strOfNums (l.map fun c => (c.toNat : Int)) = strL l := by
  unfold strOfNums strL
  rw [List.map_map]
  congr 2
  have : ((fun n : Int => UInt8.ofNat n.toNat) ∘ fun c : UInt8 => (c.toNat : Int)) = id := by
    funext c
    simp
  rw [this, List.map_id]
theorem convert_none (w : World) : (convert 61 9 (.slice none 0 0)).run Tryz.prog w = .ok (.string (strL [])) w := by kernel_rfl
theorem convert_own {w : World} {B : Nat} {v : Value} {bs : List UInt8} (h : w.ownsRow B 5 1 v bs.length (bs.map byteV)) : (convert 61 9 v).run Tryz.prog w = .ok (.string (strL bs)) w := by
  rcases h.2 with ⟨rfl, h0⟩ | ⟨g, cap, cur, rfl, hg, hcur, hcap, hcm, hcz, htk⟩
  · have : bs = [] := List.eq_nil_of_length_eq_zero h0
    subst this
    exact convert_none w
  · have := run_convert_bytes_arg (P := Tryz.prog) w 61 5 und61 und5 g 0 bs.length cap (bs.map fun c => (c.toNat : Int)) (by simp) (fun i hi => by
      have hl : i < bs.length := by simpa using hi
      rw [Nat.zero_add, cell_of_row w g i cur 5 (0, 0) hcur]
      have h3 : (cur.toList.take (bs.length * 1))[i]? = (bs.map byteV)[i]? := by rw [htk]
      rw [List.getElem?_take_of_lt (by omega), Array.getElem?_toList] at h3
      rw [h3]
      simp [hl]; rfl) 9 und9
    rw [str_nums] at this
    exact this
theorem row_form {w : World} {N n : Nat} {v : Value} {xs : List Value} (h : w.ownsRow N 5 1 v n xs) : ∃ a c, v = .slice a n c := by
  rcases h.2 with ⟨rfl, rfl⟩ | ⟨g, cap, cur, rfl, _⟩
  · exact ⟨_, _, rfl⟩
  · exact ⟨_, _, rfl⟩

theorem wrap_i64 (n : Int) : IntKind.i64.wrap n = (n + 9223372036854775808) % 18446744073709551616 - 9223372036854775808 := by
  simp [IntKind.wrap, IntKind.bits, IntKind.signed]
  omega
theorem on_nil (w : World) : Calls Tryz.prog 54 #[.pointer none] w fun e w' => e = .returned (.bool false) ∧ w' = w := by
  go_enter Tryz.func54, Tryz.ntmps54
  go_wp2
  go_ret
  exact ⟨rfl, rfl⟩
theorem on_some (N : Lo) (d : Nat) (S : Dk) (w : World) (h : DiskAt w N d S) : Calls Tryz.prog 54 #[.pointer (some ⟨d, 0, none⟩)] w fun e w' => e = .returned (.bool S.on) ∧ w' = w := by
  obtain ⟨mv, st, A, V, hH, _⟩ := h
  have c3 := hH.at 3 _ rfl
  go_enter Tryz.func54, Tryz.ntmps54
  go_wp2
  go_ret
  exact ⟨rfl, rfl⟩
theorem steps_nil (w : World) : Calls Tryz.prog 108 #[.pointer none] w fun e w' => e = .returned (.int .i64 0) ∧ w' = w := by
  go_enter Tryz.func108, Tryz.ntmps108
  go_wp2
  go_ret
  exact ⟨rfl, rfl⟩
theorem size_any (b : Nat) (a : Option Addr) (n c : Nat) (w : World) (h : w.cell? ⟨b, 0, none⟩ = some (.slice a n c)) : Calls Tryz.prog 100 #[.pointer (some ⟨b, 0, none⟩)] w fun e w' => e = .returned (.int .i64 (n : Int)) ∧ w' = w := by
  go_enter Tryz.func100, Tryz.ntmps100
  go_wp2
  go_ret
  exact ⟨rfl, rfl⟩
theorem text_any (N b : Nat) (v : Value) (bs : List UInt8) (f : Value) (w : World) (h : Holds w b [v, f] 128) (hr : w.ownsRow N 5 1 v bs.length (bs.map byteV)) : Calls Tryz.prog 153 #[.pointer (some ⟨b, 0, none⟩)] w fun e w' => e = .returned (.string (strL bs)) ∧ w' = w := by
  obtain ⟨a, c, rfl⟩ := row_form hr
  have c0 := h.at 0 _ rfl
  have hcv := convert_own hr
  go_enter Tryz.func153, Tryz.ntmps153
  go_wp2
  go_ret
  exact ⟨rfl, rfl⟩
theorem loose_any (b : Nat) (a : Option Addr) (n c m : Nat) (w : World) (h : Holds w b [.slice a n c, .int .i64 (m : Int)] 128) (hm : m ≤ n) (hn : n ≤ 16777216) : Calls Tryz.prog 68 #[.pointer (some ⟨b, 0, none⟩)] w fun e w' => e = .returned (.int .i64 ((n - m : Nat) : Int)) ∧ w'.heap = w.heap ∧ Below w.heap.size w w' := by
  have c0 := h.at 0 _ rfl
  have c1 := h.at 1 _ rfl
  have hsz : Hid (∀ W : World, W.cell? ⟨b, 0, none⟩ = some (.slice a n c) → Calls Tryz.prog 100 #[.pointer (some ⟨b, 0, none⟩)] W fun e w' => e = .returned (.int .i64 (n : Int)) ∧ w' = W) := fun W hW => size_any b a n c W hW
  have hd : Hid (w.drew.cell? ⟨b, 0, none⟩ = some (.slice a n c)) := c0
  have e1 : ((n - m : Nat) : Int) = (n : Int) - (m : Int) := by omega
  rw [e1]
  have hwr : IntKind.i64.wrap ((n : Int) - (m : Int)) = (n : Int) - (m : Int) := by rw [wrap_i64]; omega
  go_enter Tryz.func68, Tryz.ntmps68
  go_wp2_with fail
  go_region_with (go_at_call 100; refine (hsz.out _ hd.out).mono ?_; rintro e w2 ⟨rfl, rfl⟩)
  all_goals
    go_wp2
    go_ret
    exact ⟨rfl, rfl, (Below.refl _ _).drew⟩
theorem settle_any (b : Nat) (a : Option Addr) (n c : Nat) (f : Value) (w : World) (h : Holds w b [.slice a n c, f] 128) : Calls Tryz.prog 71 #[.pointer (some ⟨b, 0, none⟩)] w fun e w' => e = .returned (.tuple #[]) ∧ w' = w.setCell ⟨b, 1, none⟩ (.int .i64 (n : Int)) := by
  have c0 := h.at 0 _ rfl
  have c1 := h.at 1 _ rfl
  have f1 := h.frozen 1
  go_enter Tryz.func71, Tryz.ntmps71
  go_wp2_with (go_at_call 100; refine (size_any b a n c _ c0).mono ?_; rintro e w2 ⟨rfl, rfl⟩)
  exact bodyPost_end (results_none (by kernel_rfl) _ _ _) rfl ⟨rfl, rfl⟩
/-- How many of so many loose bytes a pick leaves. -/
def staysN (p : Int) (l : Nat) : Nat := (if p < 0 then -(p + 1) else p).toNat % (l + 1)
theorem staysN_le (p : Int) (l : Nat) : staysN p l ≤ l := by
  have := Nat.mod_lt (if p < 0 then -(p + 1) else p).toNat (by omega : 0 < l + 1)
  unfold staysN
  omega
theorem stays_any (p : Int) (hp : -9223372036854775808 ≤ p ∧ p < 9223372036854775808) (l : Nat) (hl : l ≤ 16777216) (w : World) : Calls Tryz.prog 70 #[.int .i64 p, .int .i64 (l : Int)] w fun e w' => e = .returned (.int .i64 (staysN p l : Int)) ∧ w' = w := by
  have hz : ¬ (l : Int) + 1 = 0 := by omega
  by_cases hn : p < 0
  · obtain ⟨q, hq⟩ : ∃ q : Nat, -(p + 1) = (q : Int) := ⟨(-(p + 1)).toNat, by omega⟩
    have hq2 : q < 9223372036854775808 := by omega
    have e1 : (staysN p l : Int) = (q : Int) % ((l : Int) + 1) := by
      rw [staysN, if_pos hn, hq]; simp
    have e2 : (q : Int).tmod ((l : Int) + 1) = (q : Int) % ((l : Int) + 1) := Int.tmod_eq_emod_of_nonneg (by omega)
    rw [e1, ← e2]
    clear e1 e2
    go_enter Tryz.func70, Tryz.ntmps70
    go_wp2
    go_ret
    exact ⟨rfl, rfl⟩
  · obtain ⟨q, rfl⟩ := Int.eq_ofNat_of_zero_le (by omega : 0 ≤ p)
    have e1 : (staysN (q : Int) l : Int) = (q : Int) % ((l : Int) + 1) := by
      rw [staysN, if_neg hn]; simp
    have e2 : (q : Int).tmod ((l : Int) + 1) = (q : Int) % ((l : Int) + 1) := Int.tmod_eq_emod_of_nonneg (by omega)
    rw [e1, ← e2]
    clear e1 e2
    go_enter Tryz.func70, Tryz.ntmps70
    go_wp2
    go_ret
    exact ⟨rfl, rfl⟩
theorem cut_any (b g n c m : Nat) (hm : m ≤ n) (hn : n ≤ c) (f : Value) (w : World) (h : Holds w b [.slice (some ⟨g, 0, none⟩) n c, f] 128) : Calls Tryz.prog 69 #[.pointer (some ⟨b, 0, none⟩), .int .i64 (m : Int)] w fun e w' => e = .returned (.tuple #[]) ∧ w' = w.setCell ⟨b, 0, none⟩ (.slice (some ⟨g, 0, none⟩) m c) := by
  have c0 := h.at 0 _ rfl
  have f0 := h.frozen 0
  have hmc : (m : Int) ≤ (c : Int) := by omega
  go_enter Tryz.func69, Tryz.ntmps69
  go_wp2
  exact bodyPost_end (results_none (by kernel_rfl) _ _ _) rfl ⟨rfl, rfl⟩
end Go.Proofs.YtfmmholkeadejaaGreatDoor
