/- What the document's own padded answers: the text, a byte 62, bytes 0, and its length in bits. -/
import Derived.Test.YtlliijodilnlgaaDoorShPut
import Derived.Test.YtlliijodilnlgaaDoorShFill
import Derived.Deep.AppendLies
import Derived.Laws.BytesArg
namespace Go.Proofs.YtlliijodilnlgaaDoor
open Go.RowKit

theorem und9r : Tryd.prog.underlying 9 = some .string := by kernel_rfl
theorem full5 : (Tryd.prog.info? 5).map (fun i => (i.zero, i.size, i.bytes)) = some (some (.int .u8 0), 1, 1) := by kernel_rfl
theorem inf5 : ∃ i, Tryd.prog.info? 5 = some i ∧ i.zero = some (.int .u8 0) ∧ i.size = 1 ∧ i.bytes = 1 := by
  have := full5
  cases h : Tryd.prog.info? 5 with
  | none => simp [h] at this
  | some i =>
    simp [h] at this
    exact ⟨i, rfl, this.1, this.2.1, this.2.2⟩
theorem below_grown {B : Nat} {w0 w w' : World} {v : Value} {e : TypeId} {size k : Nat} {xs : List Value} (h : Below B w0 w) (hg : w.grownBy w' v.ownBlock) (hB : B ≤ w.heap.size) (ho : w.ownsRow B e size v k xs) : Below B w0 w' :=
  h.grown hg hB (fun j hj => by
    rcases ho.2 with ⟨rfl, _⟩ | ⟨g, cap, cur, rfl, hb, _⟩
    · cases hj
    · simp [Value.ownBlock] at hj; omega)

set_option maxHeartbeats 400000 in
set_option maxRecDepth 100000 in
theorem padded_any (s : ByteArray) (hs : s.size < 1099511627776) (w : World) :
    Calls Tryd.prog 38 #[.string s] w fun e w' => ∃ p : ByteArray, e = .returned (.string p) ∧ p.data.toList = s.data.toList ++ padding s.size ∧ Below w.heap.size w w' := by
  have hz : zeros s.size < 64 := by unfold zeros; omega
  obtain ⟨n, hn⟩ : ∃ n, w.heap.size = n := ⟨_, rfl⟩
  rw [hn]
  go_enter Tryd.func38, Tryd.ntmps38
  go_wp2_with fail
  go_loopw [0] (fun v wr => ∃ (k : Nat) (p : ByteArray), k ≤ zeros s.size ∧ v = .string p ∧ p.size = s.size + (k + 1) ∧ p.data.toList = s.data.toList ++ 0x80 :: List.replicate k 0 ∧ wr = w) (fun v _ => s.size + 100 - sizeV v)
  case atStart => exact ⟨0, _, by omega, rfl, by simp [ByteArray.size_append]; rfl, by simp, rfl⟩
  case round =>
    obtain ⟨k, p, hk, rfl, hp, hl, rfl⟩ := hrel
    have HL : Hid (p.data.toList = s.data.toList ++ 0x80 :: List.replicate k 0) := hl
    have HP : Hid (p.size = s.size + (k + 1)) := hp
    clear hl
    by_cases hlt : k < zeros s.size
    · have hne : ¬ ((p.size : Int) % 64 = 56) := by unfold zeros at hlt; omega
      have hb : p.size < 2199023255552 := by omega
      clear hp
      go_wp2_with fail
      have hsz : (p ++ (⟨#[0]⟩ : ByteArray)).size = p.size + 1 := by simp [ByteArray.size_append]; rfl
      refine ⟨⟨k + 1, _, by omega, rfl, by rw [hsz, HP.out]; omega, ?_, trivial⟩, by simp only [sizeV, hsz]; have := HP.out; omega⟩
      rw [ByteArray.data_append, Array.toList_append, HL.out, List.replicate_succ', List.append_assoc]
      simp
    · have hne : (p.size : Int) % 64 = 56 := by unfold zeros at hlt hk; omega
      have hb : p.size < 2199023255552 := by omega
      clear hp
      go_wp2_with fail
      clear hne
      have hk2 : p.data.toList = s.data.toList ++ 0x80 :: List.replicate (zeros s.size) 0 := by rw [HL.out, show k = zeros s.size by omega]
      clear HL
      have HL : Hid (p.data.toList = s.data.toList ++ 0x80 :: List.replicate (zeros s.size) 0) := hk2
      clear hk2
      obtain ⟨i5, hi5, hz5, hs5, hb5⟩ := inf5
      have F5 : Hid (Tryd.prog.info? 5 = some i5) := hi5
      clear hi5
      go_loopw [4, 5] (fun v c wr' => ∃ j : Nat, j ≤ 8 ∧ c = .int .i64 (7 - (j : Int)) ∧ wr'.ownsRow n 5 1 v j ((numBytes (s.size * 8) j).map byteV) ∧ n ≤ wr'.heap.size ∧ Below n wr wr') (fun _ c _ => (intOf c + 1).toNat)
      case atStart => exact ⟨0, by omega, rfl, ⟨rfl, .inl ⟨rfl, rfl⟩⟩, by omega, Below.refl _ _⟩
      case round =>
        obtain ⟨j, hj, rfl, hown, hsz, hbl⟩ := hrel
        by_cases hlt : j < 8
        · have i0 : (0 : Int) ≤ 8 * (7 - (j : Int)) := by omega
          have i1 : (8 * (7 - (j : Int))).toNat = 56 - 8 * j := by omega
          have i2 : min (56 - 8 * j) 64 = 56 - 8 * j := by omega
          have hx : Value.int .u8 ((s.size : Int) * 8 / 2 ^ (56 - 8 * j) % 256) = byteV (UInt8.ofNat (s.size * 8 / 2 ^ (56 - 8 * j))) := by
            unfold byteV
            congr 1
          have HX : Hid _ := hx
          clear hx
          have hn1 : n ≤ (wr.alloc (.cells #[.int .u8 ((s.size : Int) * 8 / 2 ^ (56 - 8 * j) % 256)] 5)).heap.size := by simp; omega
          go_wp2_with (at_builtin; refine wpList_append_lies _ rfl (.tmp 22) (.tmp 29) 81 rfl n 5 i5 (.int .u8 0) 1 1 und81 F5.out hz5 hs5 hb5 rfl (by omega) u4 j ((numBytes (s.size * 8) j).map byteV) rfl (hown.alloc _) ⟨wr.heap.size, 0, none⟩ 1 1 [.int .u8 ((s.size : Int) * 8 / 2 ^ (56 - 8 * j) % 256)] rfl rfl (World.news_of_block (heap_alloc_new wr _)) (by intro u hu; simp at hu; subst hu; rfl) (by omega) (by unfold maxLen; omega) (by omega) hn1 (wr.heap.size + 1) (by simp) ?_; intro g cap w1 hown1 hgrow hat hlt1)
          refine ⟨⟨j + 1, by omega, by go_num, ?_, ?_, ?_⟩, by simp [intOf]; omega⟩
          · rw [numBytes_succ, List.map_append]
            rw [HX.out] at hown1
            exact hown1
          · have := hgrow.size
            omega
          · exact below_grown (hbl.alloc hsz _) hgrow hn1 (hown.alloc _)
        · have hj8 : j = 8 := by omega
          subst hj8
          obtain ⟨h8, hcase⟩ := hown
          rcases hcase with ⟨_, h0⟩ | ⟨g, cap, cur, rfl, hg, hcur, hcap, hcm, hcz, htk⟩
          · omega
          have hcv : (convert 81 9 (.slice (some ⟨g, 0, none⟩) 8 cap)).run Tryd.prog wr = .ok (.string (strOfNums ((numBytes (s.size * 8) 8).map fun c => (c.toNat : Int)))) wr :=
            run_convert_bytes_arg (P := Tryd.prog) wr 81 5 und81 und5 g 0 8 cap ((numBytes (s.size * 8) 8).map fun c => (c.toNat : Int)) (by simp [numBytes]) (fun i hi => by
              have hl : i < (numBytes (s.size * 8) 8).length := by simp [numBytes]; omega
              rw [Nat.zero_add, cell_of_row wr g i cur 5 (0, 0) hcur]
              have h3 : (cur.toList.take (8 * 1))[i]? = ((numBytes (s.size * 8) 8).map byteV)[i]? := by rw [htk]
              rw [List.getElem?_take_of_lt (by omega), Array.getElem?_toList] at h3
              rw [h3]
              simp [hl]; rfl) 9 und9r
          obtain ⟨nb, NB⟩ : ∃ nb, Hid (strOfNums ((numBytes (s.size * 8) 8).map fun c => (c.toNat : Int)) = nb) := ⟨_, rfl⟩
          rw [NB.out] at hcv
          clear htk h8
          have hnb : nb.size = 8 := by rw [← NB.out, strOfNums_size]; simp [numBytes]
          go_wp2
          go_ret
          refine ⟨_, rfl, ?_, hbl⟩
          rw [ByteArray.data_append, Array.toList_append, HL.out, ← NB.out, strOfNums_data, padding]
          have e : ((fun n : Int => UInt8.ofNat n.toNat) ∘ fun c : UInt8 => (c.toNat : Int)) = id := funext fun c => by simp
          rw [List.map_map, e, List.map_id]
          simp
end Go.Proofs.YtlliijodilnlgaaDoor
