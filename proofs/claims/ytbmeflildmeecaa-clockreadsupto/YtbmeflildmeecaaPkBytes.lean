/- What Bytes answers. -/
import Derived.Test.YtbmeflildmeecaaPkLay
import Derived.Laws.BytesString
namespace Go.Proofs.Ytbmeflildmeecaa.Pk
open Go.RowKit

theorem und5 : Try.prog.underlying 5 = some (.int .u8) := by kernel_rfl
/-- The text of some bytes. -/
def strL (l : List UInt8) : ByteArray := ⟨l.toArray⟩
theorem strL_list (l : List UInt8) : (strL l).data.toList = l := rfl
theorem strL_size (l : List UInt8) : (strL l).size = l.length := rfl
theorem str_nums (l : List UInt8) : strOfNums (l.map fun c => (c.toNat : Int)) = strL l := by
  unfold strOfNums strL
  rw [List.map_map]
  congr 2
  have : ((fun n : Int => UInt8.ofNat n.toNat) ∘ fun c : UInt8 => (c.toNat : Int)) = id := by
    funext c
    simp
  rw [this, List.map_id]
set_option maxRecDepth 100000 in
theorem convert_own {w : World} {B : Nat} {v : Value} {bs : List UInt8} (h : w.ownsRow B 5 1 v bs.length (bs.map byteV)) : (convert 64 9 v).run Try.prog w = .ok (.string (strL bs)) w := by
  rcases h.2 with ⟨rfl, h0⟩ | ⟨g, cap, cur, rfl, hg, hcur, hcap, hcm, hcz, htk⟩
  · have : bs = [] := List.eq_nil_of_length_eq_zero h0
    subst this
    rfl
  · have := run_convert_bytes_arg (P := Try.prog) w 64 5 und64 und5 g 0 bs.length cap (bs.map fun c => (c.toNat : Int)) (by simp) (fun i hi => by
      have hl : i < bs.length := by simpa using hi
      rw [Nat.zero_add, cell_of_row w g i cur 5 (0, 0) hcur]
      have h3 : (cur.toList.take (bs.length * 1))[i]? = (bs.map byteV)[i]? := by rw [htk]
      rw [List.getElem?_take_of_lt (by omega), Array.getElem?_toList] at h3
      rw [h3]
      simp [hl]; rfl) 9 und9
    rw [str_nums] at this
    exact this

set_option maxRecDepth 100000 in
theorem bytes_nil (w : World) : Calls Try.prog 46 #[.pointer none] w fun e w' => e = .returned (.string ⟨#[]⟩) ∧ w' = w := by
  go_enter Try.func46, Try.ntmps46
  go_wp2
  go_ret
  exact ⟨rfl, rfl⟩
set_option maxRecDepth 100000 in
theorem bytes_some (B : Nat) (bs : List UInt8) (w : World) (hw : Wr w B bs) :
    Calls Try.prog 46 #[.pointer (some ⟨B, 0, none⟩)] w fun e w' => e = .returned (.string (strL bs)) ∧ w' = w := by
  obtain ⟨v, hB, hown⟩ := hw
  have cB : w.cell? ⟨B, 0, none⟩ = some v := hB.at 0 _ rfl
  have hcv := convert_own hown
  obtain ⟨a, k, c, rfl⟩ := own_slice hown
  go_enter Try.func46, Try.ntmps46
  go_wp2
  go_ret
  exact ⟨rfl, rfl⟩
end Go.Proofs.Ytbmeflildmeecaa.Pk
