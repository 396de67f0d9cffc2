/- What package sha's Text answers: the digits of a sum. -/
import Derived.Test.YtccebaleaipilaaDoorFill
import Derived.Test.YtccebaleaipilaaDoorSpread
import Derived.Laws.BytesArg
namespace Go.Proofs.YtccebaleaipilaaDoor
open Go.RowKit

/-- The sixteen digits. -/
def digits : List UInt8 := [48, 49, 50, 51, 52, 53, 54, 55, 56, 57, 97, 98, 99, 100, 101, 102]
def dig (n : Nat) : UInt8 := digits.getD n 0
/-- The digits, i bytes being told. -/
def tx (sum : List UInt8) : Nat → List UInt8
  | 0 => List.replicate 64 0
  | i + 1 => ((tx sum i).set (2 * i) (dig ((sum.getD i 0).toNat / 16))).set (2 * i + 1) (dig ((sum.getD i 0).toNat % 16))
theorem tx_length (sum : List UInt8) : ∀ i, (tx sum i).length = 64
  | 0 => by simp [tx]
  | i + 1 => by simp [tx, tx_length sum i]
/-- A sum's text. -/
def textL (sum : List UInt8) : ByteArray := ⟨(tx sum 32).toArray⟩

theorem und9 : Tryd.prog.underlying 9 = some .string := by kernel_rfl
theorem dig_get (i : Nat) (h : i < 16) : (⟨#[48, 49, 50, 51, 52, 53, 54, 55, 56, 57, 97, 98, 99, 100, 101, 102]⟩ : ByteArray)[i]'h = dig i := by
  have : i = 0 ∨ i = 1 ∨ i = 2 ∨ i = 3 ∨ i = 4 ∨ i = 5 ∨ i = 6 ∨ i = 7 ∨ i = 8 ∨ i = 9 ∨ i = 10 ∨ i = 11 ∨ i = 12 ∨ i = 13 ∨ i = 14 ∨ i = 15 := by omega
  rcases this with h | h | h | h | h | h | h | h | h | h | h | h | h | h | h | h <;> subst h <;> rfl

theorem text_str (sum : List UInt8) : strOfNums ((tx sum 32).map fun c => (c.toNat : Int)) = textL sum := by
  apply ByteArray.ext
  apply Array.ext'
  rw [strOfNums_data]
  unfold textL
  generalize tx sum 32 = l
  have e : ((fun n : Int => UInt8.ofNat n.toNat) ∘ fun c : UInt8 => (c.toNat : Int)) = id := funext fun c => by simp
  simp [e]

set_option maxHeartbeats 400000 in
set_option maxRecDepth 100000 in
theorem text_any (sum : List UInt8) (hs : sum.length = 32) (w : World) :
    Calls Tryd.prog 10 #[.agg (sum.map byteV).toArray] w fun e w' => e = .returned (.string (textL sum)) ∧ Below w.heap.size w w' := by
  obtain ⟨n, hn⟩ : ∃ n, w.heap.size = n := ⟨_, rfl⟩
  rw [hn]
  go_enter Tryd.func10, Tryd.ntmps10
  go_wp2_with (first
    | (refine wpList_box_new 1 rfl rfl 23 _ rfl n hn _ rfl ?_; intro w1 h1)
    | (refine wpList_alloc_new 3 rfl rfl 41 rfl (n + 1) h1.size _ (zero_of_info info41).1 ?_; intro w2 h2)
    | (refine wpList_load_all rfl 23 (.tmp 1) rfl n rfl 23 (sum.map byteV) 32 5 (h1.holds.below h2.below (by omega)) und23 (by rw [(zero_of_info info23).2]; simp [hs]) ?_))
  go_loopw [7] (fun c wr => ∃ k : Nat, k ≤ 32 ∧ c = .int .i64 k ∧ wr.heap.size = n + 2 ∧ Below (n + 1) w2 wr ∧ Holds wr (n + 1) ((tx sum k).map byteV) 41) (fun c _ => 32 - (intOf c).toNat)
  case atStart => exact ⟨0, by omega, rfl, h2.size, Below.refl _ _, h2.holds⟩
  case round =>
    obtain ⟨k, hk, rfl, hz, hb, hh⟩ := hrel
    by_cases hlt : k < 32
    · obtain ⟨x, X⟩ : ∃ x, Hid (sum.getD k 0 = x) := ⟨_, rfl⟩
      have hix : (Instr.index 23 (.agg (sum.map byteV).toArray) (.int .i64 (k : Int))).run Tryd.prog wr = .ok (.int .u8 (x.toNat : Int)) wr :=
        run_index_array (P := Tryd.prog) wr 23 5 32 .u8 und23 und5 siz5 (sum.map byteV) k hlt (byteV x) (by rw [← X.out]; simp [hs, hlt])
      have i0 : (0 : Int) ≤ 2 * (k : Int) := by omega
      have i1 : 2 * (k : Int) < 64 := by omega
      have j1 : 2 * (k : Int) + 1 < 64 := by omega
      have m0 : (2 * (k : Int)).toNat = 2 * k := by omega
      have m1 : (2 * (k : Int) + 1).toNat = 2 * k + 1 := by omega
      have hx : x.toNat < 256 := x.toNat_lt
      have a0 : (0 : Int) ≤ (x.toNat : Int) / 16 := by omega
      have a1 : (x.toNat : Int) / 16 < 16 := by omega
      have hl0 : 2 * k + 1 < ((tx sum k).map byteV).length := by simp [tx_length]; omega
      go_wp2_with (first
        | (refine wpList_store_int rfl 5 (.tmp 16) (.tmp 15) rfl siz5 (n + 1) (2 * k) rfl .u8 _ rfl _ 41 hh (by omega) ?_; intro wa ha)
        | (refine wpList_store_int rfl 5 (.tmp 23) (.tmp 22) rfl siz5 (n + 1) (2 * k + 1) rfl .u8 _ rfl _ 41 ha.holds (by simp [tx_length]; omega) ?_; intro wb hb'))
      refine ⟨⟨k + 1, by omega, by go_num, ?_, ?_, ?_⟩, by simp [intOf]; omega⟩
      · rw [hb'.size, ha.size, hz]
      · exact (hb.trans (ha.below (by omega))).trans (hb'.below (by omega))
      · have := hb'.holds
        rw [dig_get _ (by omega), dig_get _ (by omega)] at this
        have e : ∀ c : UInt8, Value.int .u8 (c.toNat : Int) = byteV c := fun _ => rfl
        rw [e, e, ← List.map_set, ← List.map_set] at this
        rw [tx, X.out]
        exact this
    · have hh : Holds wr (n + 1) ((tx sum 32).map byteV) 41 := by rw [show k = 32 by omega] at hh; exact hh
      have hr : Below n w wr := (h1.below.trans (h2.below.mono (by omega))).trans (hb.mono (by omega))
      have hsl : (Instr.sliceAt 41 (.pointer (some ⟨n + 1, 0, none⟩)) none none none).run Tryd.prog wr = .ok (.slice (some ⟨n + 1, 0, none⟩) 64 64) wr := by
        simp [Instr.sliceAt, Sem.run_bind, run_underlying und41, Instr.sureAddr, Instr.sliceBounds, run_sizeOf siz5, Addr.add]
      have hcv : (convert 50 9 (.slice (some ⟨n + 1, 0, none⟩) 64 64)).run Tryd.prog wr = .ok (.string (textL sum)) wr := by
        have := run_convert_bytes_arg (P := Tryd.prog) wr 50 5 und50 und5 (n + 1) 0 64 64 ((tx sum 32).map fun c => (c.toNat : Int)) (by simp [tx_length]) (fun i hi => by
          have hl : i < (tx sum 32).length := by rw [tx_length]; exact hi
          rw [Nat.zero_add]
          exact hh.at i _ (by simp [hl]; rfl)) 9 und9
        rw [text_str] at this
        exact this
      go_wp2
      go_ret
      exact ⟨rfl, hr⟩
end Go.Proofs.YtccebaleaipilaaDoor
