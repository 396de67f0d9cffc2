/- What Bytes, Check, checkOf answer. -/
import Derived.Test.YtbfadapffpijpaaDoorPkLay
import Derived.Laws.BytesString
namespace Go.Proofs.YtbfadapffpijpaaDoor.Pk
open Go.RowKit

theorem und5 : Tryd.prog.underlying 5 = some (.int .u8) := by kernel_rfl
/-- The text of some bytes. -/
def strL (l : List UInt8) : ByteArray := ⟨l.toArray⟩
theorem strL_list (l : List UInt8) : (strL l).data.toList = l := rfl
theorem strL_size (l : List UInt8) : (strL l).size = l.length := rfl
theorem str_nums (l : List UInt8) : strOfNums (l.map fun c => (c.toNat : Int)) = strL l := by
  unfold strOfNums strL
  rw [List.map_map]
  congr 2
  have : ((fun n : Int => UInt8.ofNat n.toNat) ∘ fun c : UInt8 => (c.toNat : Int)) = id := by
    funext c
    simp
  rw [this, List.map_id]
theorem conv_none (w : World) : (convert 73 9 (.slice none 0 0)).run Tryd.prog w = .ok (.string (strL [])) w := by kernel_rfl
theorem convert_own {w : World} {B : Nat} {v : Value} {bs : List UInt8} (h : w.ownsRow B 5 1 v bs.length (bs.map byteV)) : (convert 73 9 v).run Tryd.prog w = .ok (.string (strL bs)) w := by
  rcases h.2 with ⟨rfl, h0⟩ | ⟨g, cap, cur, rfl, hg, hcur, hcap, hcm, hcz, htk⟩
  · have : bs = [] := List.eq_nil_of_length_eq_zero h0
    subst this
    exact conv_none w
  · have := run_convert_bytes_arg (P := Tryd.prog) w 73 5 und73 und5 g 0 bs.length cap (bs.map fun c => (c.toNat : Int)) (by simp) (fun i hi => by
      have hl : i < bs.length := by simpa using hi
      rw [Nat.zero_add, cell_of_row w g i cur 5 (0, 0) hcur]
      have h3 : (cur.toList.take (bs.length * 1))[i]? = (bs.map byteV)[i]? := by rw [htk]
      rw [List.getElem?_take_of_lt (by omega), Array.getElem?_toList] at h3
      rw [h3]
      simp [hl]; rfl) 9 und9
    rw [str_nums] at this
    exact this

set_option maxRecDepth 100000 in
theorem bytes_nil (w : World) : Calls Tryd.prog 49 #[.pointer none] w fun e w' => e = .returned (.string ⟨#[]⟩) ∧ w' = w := by
  go_enter Tryd.func49, Tryd.ntmps49
  go_wp2
  go_ret
  exact ⟨rfl, rfl⟩
set_option maxRecDepth 100000 in
theorem bytes_some (B : Nat) (bs : List UInt8) (w : World) (hw : Wr w B bs) :
    Calls Tryd.prog 49 #[.pointer (some ⟨B, 0, none⟩)] w fun e w' => e = .returned (.string (strL bs)) ∧ w' = w := by
  obtain ⟨v, hB, hown⟩ := hw
  have cB : w.cell? ⟨B, 0, none⟩ = some v := hB.at 0 _ rfl
  have hcv := convert_own hown
  obtain ⟨a, k, c, rfl⟩ := own_slice hown
  go_enter Tryd.func49, Tryd.ntmps49
  go_wp2
  go_ret
  exact ⟨rfl, rfl⟩

/-- One bit of the check, one byte of it, all. -/
def crc1 (c : BitVec 32) : BitVec 32 := (c >>> 1) ^^^ ((-(c &&& 1#32)) &&& 3988292384#32)
def crcN : Nat → BitVec 32 → BitVec 32
  | 0, c => c
  | k + 1, c => crc1 (crcN k c)
def crc8 (c : BitVec 32) (b : UInt8) : BitVec 32 := crcN 8 (c ^^^ BitVec.ofNat 32 b.toNat)
def crc (l : List UInt8) : BitVec 32 := ~~~ (l.foldl crc8 4294967295#32)

theorem wrap_u32 (n : Int) : IntKind.u32.wrap n = n % 4294967296 := by simp [IntKind.wrap, IntKind.bits, IntKind.signed]
theorem ofInt_toNat (x : BitVec 32) : BitVec.ofInt 32 (x.toNat : Int) = x := by
  apply BitVec.eq_of_toNat_eq
  rw [BitVec.toNat_ofInt]
  have := x.isLt
  omega
theorem wrap_toNat (x : BitVec 32) : IntKind.u32.wrap (x.toNat : Int) = x.toNat := by
  rw [wrap_u32]
  have := x.isLt
  omega
theorem u_xor (x y : BitVec 32) : bits .xor .u32 (x.toNat : Int) (y.toNat : Int) = ((x ^^^ y).toNat : Int) := by
  show IntKind.u32.wrap ((BitVec.ofInt 32 (x.toNat : Int) ^^^ BitVec.ofInt 32 (y.toNat : Int)).toNat : Int) = _
  rw [ofInt_toNat, ofInt_toNat, wrap_toNat]
theorem u_and (x y : BitVec 32) : bits .and .u32 (x.toNat : Int) (y.toNat : Int) = ((x &&& y).toNat : Int) := by
  show IntKind.u32.wrap ((BitVec.ofInt 32 (x.toNat : Int) &&& BitVec.ofInt 32 (y.toNat : Int)).toNat : Int) = _
  rw [ofInt_toNat, ofInt_toNat, wrap_toNat]
theorem u_not (x : BitVec 32) : bits .xor .u32 IntKind.u32.max (x.toNat : Int) = ((~~~x).toNat : Int) := by
  show IntKind.u32.wrap ((BitVec.ofInt 32 IntKind.u32.max ^^^ BitVec.ofInt 32 (x.toNat : Int)).toNat : Int) = _
  rw [ofInt_toNat, wrap_toNat, show BitVec.ofInt 32 IntKind.u32.max = BitVec.allOnes 32 by decide, BitVec.allOnes_xor]
theorem u_neg (x : BitVec 32) : IntKind.u32.wrap (-(x.toNat : Int)) = ((-x).toNat : Int) := by
  rw [wrap_u32, BitVec.toNat_neg]
  have := x.isLt
  omega

theorem crc1_val (d : BitVec 32) : bits .xor .u32 ((d.toNat : Int) / 2) (bits .and .u32 (-(bits .and .u32 (d.toNat : Int) 1) % 4294967296) 3988292384) = ((crc1 d).toNat : Int) := by
  have h1 : bits .and .u32 (d.toNat : Int) 1 = ((d &&& 1#32).toNat : Int) := u_and d 1#32
  have h2 : -((d &&& 1#32).toNat : Int) % 4294967296 = ((-(d &&& 1#32)).toNat : Int) := by rw [← wrap_u32, u_neg]
  have h3 : bits .and .u32 ((-(d &&& 1#32)).toNat : Int) 3988292384 = ((-(d &&& 1#32) &&& 3988292384#32).toNat : Int) := u_and _ 3988292384#32
  have h4 : (d.toNat : Int) / (2 : Int) = ((d >>> 1).toNat : Int) := by rw [BitVec.toNat_ushiftRight, Nat.shiftRight_eq_div_pow]; omega
  rw [h1, h2, h3, h4, u_xor]
  rfl
/-- A check in four bytes. -/
def four (c : BitVec 32) : List UInt8 := [UInt8.ofNat (c.toNat / 16777216), UInt8.ofNat (c.toNat / 65536), UInt8.ofNat (c.toNat / 256), UInt8.ofNat c.toNat]
end Go.Proofs.YtbfadapffpijpaaDoor.Pk
