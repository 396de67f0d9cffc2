/- What Bytes, Check, checkOf answer. -/
import Derived.Test.YtlbdlipdhhpgmaaLay
import Derived.Laws.BytesString
namespace Go.Proofs.Ytlbdlipdhhpgmaa
open Go.RowKit

theorem und5 : Try.prog.underlying 5 = some (.int .u8) := by kernel_rfl
/-- The text of some bytes. -/
def strL (l : List UInt8) : ByteArray := ⟨l.toArray⟩
theorem strL_list (l : List UInt8) : (strL l).data.toList = l := rfl
theorem strL_size (l : List UInt8) : (strL l).size = l.length := rfl
theorem str_nums (l : List UInt8) : strOfNums (l.map fun c => (c.toNat : Int)) = strL l := by
  unfold strOfNums strL
  rw [List.map_map]
  congr 2
  have : ((fun n : Int => UInt8.ofNat n.toNat) ∘ fun c : UInt8 => (c.toNat : Int)) = id := by
    funext c
    simp
  rw [this, List.map_id]
theorem convert_own {w : World} {B : Nat} {v : Value} {bs : List UInt8} (h : w.ownsRow B 5 1 v bs.length (bs.map byteV)) : (convert 27 9 v).run Try.prog w = .ok (.string (strL bs)) w := by
  rcases h.2 with ⟨rfl, h0⟩ | ⟨g, cap, cur, rfl, hg, hcur, hcap, hcm, hcz, htk⟩
  · have : bs = [] := List.eq_nil_of_length_eq_zero h0
    subst this
    rfl
  · have := run_convert_bytes_arg (P := Try.prog) w 27 5 und27 und5 g 0 bs.length cap (bs.map fun c => (c.toNat : Int)) (by simp) (fun i hi => by
      have hl : i < bs.length := by simpa using hi
      rw [Nat.zero_add, cell_of_row w g i cur 5 (0, 0) hcur]
      have h3 : (cur.toList.take (bs.length * 1))[i]? = (bs.map byteV)[i]? := by rw [htk]
      rw [List.getElem?_take_of_lt (by omega), Array.getElem?_toList] at h3
      rw [h3]
      simp [hl]; rfl) 9 und9
    rw [str_nums] at this
    exact this

set_option maxRecDepth 100000 in
theorem bytes_nil (w : World) : Calls Try.prog 16 #[.pointer none] w fun e w' => e = .returned (.string ⟨#[]⟩) ∧ w' = w := by
  go_enter Try.func16, Try.ntmps16
  go_wp2
  go_ret
  exact ⟨rfl, rfl⟩
set_option maxRecDepth 100000 in
theorem bytes_some (B : Nat) (bs : List UInt8) (w : World) (hw : Wr w B bs) :
    Calls Try.prog 16 #[.pointer (some ⟨B, 0, none⟩)] w fun e w' => e = .returned (.string (strL bs)) ∧ w' = w := by
  obtain ⟨v, hB, hown⟩ := hw
  have cB : w.cell? ⟨B, 0, none⟩ = some v := hB.at 0 _ rfl
  have hcv := convert_own hown
  obtain ⟨a, k, c, rfl⟩ := own_slice hown
  go_enter Try.func16, Try.ntmps16
  go_wp2
  go_ret
  exact ⟨rfl, rfl⟩

/-- One bit of the check, one byte of it, all. -/
def crc1 (c : BitVec 32) : BitVec 32 := (c >>> 1) ^^^ ((-(c &&& 1#32)) &&& 3988292384#32)
def crcN : Nat → BitVec 32 → BitVec 32
  | 0, c => c
  | k + 1, c => crc1 (crcN k c)
def crc8 (c : BitVec 32) (b : UInt8) : BitVec 32 := crcN 8 (c ^^^ BitVec.ofNat 32 b.toNat)
def crc (l : List UInt8) : BitVec 32 := ~~~ (l.foldl crc8 4294967295#32)

theorem wrap_u32 (n : Int) : IntKind.u32.wrap n = n % 4294967296 := by simp [IntKind.wrap, IntKind.bits, IntKind.signed]
theorem ofInt_toNat (x : BitVec 32) : BitVec.ofInt 32 (x.toNat : Int) = x := by
  apply BitVec.eq_of_toNat_eq
  rw [BitVec.toNat_ofInt]
  have := x.isLt
  omega
theorem wrap_toNat (x : BitVec 32) : IntKind.u32.wrap (x.toNat : Int) = x.toNat := by
  rw [wrap_u32]
  have := x.isLt
  omega
theorem u_xor (x y : BitVec 32) : bits .xor .u32 (x.toNat : Int) (y.toNat : Int) = ((x ^^^ y).toNat : Int) := by
  show IntKind.u32.wrap ((BitVec.ofInt 32 (x.toNat : Int) ^^^ BitVec.ofInt 32 (y.toNat : Int)).toNat : Int) = _
  rw [ofInt_toNat, ofInt_toNat, wrap_toNat]
theorem u_and (x y : BitVec 32) : bits .and .u32 (x.toNat : Int) (y.toNat : Int) = ((x &&& y).toNat : Int) := by
  show IntKind.u32.wrap ((BitVec.ofInt 32 (x.toNat : Int) &&& BitVec.ofInt 32 (y.toNat : Int)).toNat : Int) = _
  rw [ofInt_toNat, ofInt_toNat, wrap_toNat]
theorem u_not (x : BitVec 32) : bits .xor .u32 IntKind.u32.max (x.toNat : Int) = ((~~~x).toNat : Int) := by
  show IntKind.u32.wrap ((BitVec.ofInt 32 IntKind.u32.max ^^^ BitVec.ofInt 32 (x.toNat : Int)).toNat : Int) = _
  rw [ofInt_toNat, wrap_toNat, show BitVec.ofInt 32 IntKind.u32.max = BitVec.allOnes 32 by decide, BitVec.allOnes_xor]
theorem u_neg (x : BitVec 32) : IntKind.u32.wrap (-(x.toNat : Int)) = ((-x).toNat : Int) := by
  rw [wrap_u32, BitVec.toNat_neg]
  have := x.isLt
  omega

theorem crc1_val (d : BitVec 32) : bits .xor .u32 ((d.toNat : Int) / 2) (bits .and .u32 (-(bits .and .u32 (d.toNat : Int) 1) % 4294967296) 3988292384) = ((crc1 d).toNat : Int) := by
  have h1 : bits .and .u32 (d.toNat : Int) 1 = ((d &&& 1#32).toNat : Int) := u_and d 1#32
  have h2 : -((d &&& 1#32).toNat : Int) % 4294967296 = ((-(d &&& 1#32)).toNat : Int) := by rw [← wrap_u32, u_neg]
  have h3 : bits .and .u32 ((-(d &&& 1#32)).toNat : Int) 3988292384 = ((-(d &&& 1#32) &&& 3988292384#32).toNat : Int) := u_and _ 3988292384#32
  have h4 : (d.toNat : Int) / (2 : Int) = ((d >>> 1).toNat : Int) := by rw [BitVec.toNat_ushiftRight, Nat.shiftRight_eq_div_pow]; omega
  rw [h1, h2, h3, h4, u_xor]
  rfl
set_option maxHeartbeats 400000 in
set_option maxRecDepth 100000 in
theorem check_any (s : ByteArray) (hs : s.size < 9223372036854775808) (w : World) :
    Calls Try.prog 59 #[.string s] w fun e w' => e = .returned (.int .u32 ((crc s.data.toList).toNat : Int)) ∧ w' = w := by
  obtain ⟨R, hR⟩ : ∃ R, crc s.data.toList = R := ⟨_, rfl⟩
  rw [hR]
  have hR' : Hid (crc s.data.toList = R) := hR
  clear hR
  have hR := hR'
  clear hR'
  go_enter Try.func59, Try.ntmps59
  go_wp2_with fail
  go_loop [3, 7] (fun c i => ∃ k : Nat, k ≤ s.size ∧ i = .int .i64 (k : Int) ∧ c = .int .u32 ((((s.data.toList.take k).foldl crc8 4294967295#32).toNat : Nat) : Int)) (fun _ i => s.size - (intOf i).toNat)
  case atStart => exact ⟨0, by omega, rfl, rfl⟩
  case round =>
    obtain ⟨k, hk, rfl, rfl⟩ := hrel
    by_cases hlt : k < s.size
    · have hg := get_list s k hlt
      obtain ⟨c, hc⟩ : ∃ c, (s.data.toList.take k).foldl crc8 4294967295#32 = c := ⟨_, rfl⟩
      have HC : Hid ((s.data.toList.take k).foldl crc8 4294967295#32 = c) := hc
      rw [hc]
      clear hc
      have HG : Hid (s.data.toList[k]? = some (s[k]'hlt)) := hg
      clear hg
      obtain ⟨b, hb⟩ : ∃ b, s[k]'hlt = b := ⟨_, rfl⟩
      have hb1 : b.toNat < 256 := b.toNat_lt
      have hb2 : ((BitVec.ofNat 32 b.toNat).toNat : Int) = (b.toNat : Int) := by rw [BitVec.toNat_ofNat]; omega
      go_wp2_with fail
      go_loop [3, 16] (fun c' i => ∃ j : Nat, j ≤ 8 ∧ i = .int .i64 (j : Int) ∧ c' = .int .u32 (((crcN j (c ^^^ BitVec.ofNat 32 b.toNat)).toNat : Nat) : Int)) (fun _ i => 8 - (intOf i).toNat)
      case atStart =>
        refine ⟨0, by omega, rfl, ?_⟩
        show _ = Value.int .u32 ((c ^^^ BitVec.ofNat 32 b.toNat).toNat : Int)
        rw [← u_xor, hb2]
      case round =>
        obtain ⟨j, hj, rfl, rfl⟩ := hrel
        by_cases hj8 : j < 8
        · generalize hd : crcN j (c ^^^ BitVec.ofNat 32 b.toNat) = d
          go_wp2
          refine ⟨⟨j + 1, by omega, rfl, ?_⟩, by simp; omega⟩
          rw [crc1_val, crcN, hd]
        · have hj8 : j = 8 := by omega
          subst hj8
          go_wp2
          refine ⟨⟨k + 1, by omega, rfl, ?_⟩, by simp; omega⟩
          rw [List.take_add_one, HG.out, hb, List.foldl_append, HC.out]
          rfl
    · have htk : s.data.toList.take k = s.data.toList := List.take_of_length_le (by have : s.data.toList.length = s.size := rfl; omega)
      rw [htk]
      obtain ⟨q, hq⟩ : ∃ q, s.data.toList.foldl crc8 4294967295#32 = q := ⟨_, rfl⟩
      rw [hq]
      have hRq : Hid (R = ~~~ q) := by
        show R = ~~~ q
        rw [← hR.out, crc, hq]
      clear hq htk
      go_wp2
      go_ret
      exact ⟨by rw [hRq.out, ← u_not]; rfl, rfl⟩

/-- A check in four bytes. -/
def four (c : BitVec 32) : List UInt8 := [UInt8.ofNat (c.toNat / 16777216), UInt8.ofNat (c.toNat / 65536), UInt8.ofNat (c.toNat / 256), UInt8.ofNat c.toNat]
set_option maxRecDepth 100000 in
theorem checkOf_any (s : ByteArray) (hs : s.size < 9223372036854775808) (w : World) :
    Calls Try.prog 41 #[.string s] w fun e w' => e = .returned (.string (strL (four (crc s.data.toList)))) ∧ Below w.heap.size w w' := by
  have hk : Hid (Calls Try.prog 59 #[.string s] w fun e w' => e = .returned (.int .u32 ((crc s.data.toList).toNat : Int)) ∧ w' = w) := check_any s hs w
  generalize crc s.data.toList = c at *
  have hc := c.isLt
  have e1 : byteV (UInt8.ofNat (c.toNat / 16777216)) = .int .u8 ((c.toNat : Int) / 16777216) := by
    rw [byteV_ofNat]
    congr 1
    omega
  have e2 : byteV (UInt8.ofNat (c.toNat / 65536)) = .int .u8 ((c.toNat : Int) / 65536 % 256) := by rw [byteV_ofNat]; simp
  have e3 : byteV (UInt8.ofNat (c.toNat / 256)) = .int .u8 ((c.toNat : Int) / 256 % 256) := by rw [byteV_ofNat]; simp
  have e4 : byteV (UInt8.ofNat c.toNat) = .int .u8 ((c.toNat : Int) % 256) := by rw [byteV_ofNat]
  have hN : (four c).map byteV = [.int .u8 ((c.toNat : Int) / 16777216), .int .u8 ((c.toNat : Int) / 65536 % 256), .int .u8 ((c.toNat : Int) / 256 % 256), .int .u8 ((c.toNat : Int) % 256)] := by
    rw [← e1, ← e2, ← e3, ← e4]; rfl
  have hcv : (convert 27 9 (.slice (some ⟨w.heap.size, 0, none⟩) 4 4)).run Try.prog (w.alloc (.cells #[.int .u8 ((c.toNat : Int) / 16777216), .int .u8 ((c.toNat : Int) / 65536 % 256), .int .u8 ((c.toNat : Int) / 256 % 256), .int .u8 ((c.toNat : Int) % 256)] 5)) = .ok (.string (strL (four c))) (w.alloc (.cells #[.int .u8 ((c.toNat : Int) / 16777216), .int .u8 ((c.toNat : Int) / 65536 % 256), .int .u8 ((c.toNat : Int) / 256 % 256), .int .u8 ((c.toNat : Int) % 256)] 5)) := by
    refine convert_own (B := 0) (bs := four c) ⟨by simp, .inr ⟨w.heap.size, 4, _, rfl, by omega, heap_alloc_new w _, Nat.le_refl _, by unfold maxLen; omega, rfl, ?_⟩⟩
    rw [hN]; rfl
  clear hN e1 e2 e3 e4
  go_enter Try.func41, Try.ntmps41
  go_wp2_with (go_at_call 59; refine hk.out.mono ?_; rintro e w2 ⟨rfl, rfl⟩)
  go_ret
  exact ⟨rfl, (Below.refl _ _).alloc (Nat.le_refl _) _⟩
end Go.Proofs.Ytlbdlipdhhpgmaa
