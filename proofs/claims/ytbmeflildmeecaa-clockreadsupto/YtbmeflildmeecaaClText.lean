/- Text (29): Bytes in hexadecimal digits. -/
import Derived.Deep.RegionLaw
import Derived.Test.YtbmeflildmeecaaClBytes
namespace Go.Proofs.Ytbmeflildmeecaa
open Go.RowKit Go.Shelf Go.Sort Go.Lib Pk

def hexD : ByteArray := ⟨#[48, 49, 50, 51, 52, 53, 54, 55, 56, 57, 97, 98, 99, 100, 101, 102]⟩
def hexAt (n : Nat) : UInt8 := hexD.data.toList.getD n 0
def hexB (y : UInt8) : List UInt8 := [hexAt (y.toNat / 16), hexAt (y.toNat % 16)]
def textC (c : List Dt) : List UInt8 := (bytesC c).flatMap hexB

theorem and15 (y : UInt8) : bits .and .u8 (y.toNat : Int) 15 = (y.toNat : Int) % 16 := by
  have h := and_u8 y.toNat 15 y.toNat_lt (by omega)
  have e : y.toNat &&& 15 = y.toNat % 16 := Nat.and_two_pow_sub_one_eq_mod y.toNat 4
  rw [show ((15 : Nat) : Int) = 15 from rfl] at h
  rw [h, e]; omega
theorem own_base {w : World} {base n : Nat} {e : TypeId} {size : Nat} {v : Value} {xs : List Value} (h : w.ownsRow base e size v n xs) (k : Nat) (hk : v.ownBlock = some k) : base ≤ k := by
  rcases h.2 with ⟨rfl, _⟩ | ⟨g, cap, cur, rfl, hg, _⟩
  · cases hk
  · cases hk; exact hg
theorem hex_len (l : List UInt8) : (l.flatMap hexB).length = 2 * l.length := by
  induction l with
  | nil => rfl
  | cons y l ih => simp only [List.flatMap_cons, List.length_append, List.length_cons, ih, hexB, List.length_nil]; omega
theorem hexB_cells (y : UInt8) : (hexB y).map byteV = [byteV (hexAt (y.toNat / 16)), byteV (hexAt (y.toNat % 16))] := rfl
theorem hex_get (n : Nat) (h : n < 16) (h' : n < (⟨#[48, 49, 50, 51, 52, 53, 54, 55, 56, 57, 97, 98, 99, 100, 101, 102]⟩ : ByteArray).size) : (⟨#[48, 49, 50, 51, 52, 53, 54, 55, 56, 57, 97, 98, 99, 100, 101, 102]⟩ : ByteArray)[n]'h' = hexAt n := by
  have hk : n < hexD.data.toList.length := h
  unfold hexAt
  rw [List.getD_eq_getElem?_getD, List.getElem?_eq_getElem hk]
  rfl

set_option maxRecDepth 100000 in
set_option maxHeartbeats 4000000 in
theorem hex_any (bs : List UInt8) (hl : bs.length ≤ 35184372088832) (w : World) (a : Option Addr) (m cap : Nat) (h28 : Calls Try.prog 28 #[.slice a m cap] w fun e w' => e = .returned (.string (strL bs)) ∧ Below w.heap.size w w') :
    Calls Try.prog 29 #[.slice a m cap] w fun e w' => e = .returned (.string (strL (bs.flatMap hexB))) ∧ Below w.heap.size w w' := by
  obtain ⟨i5, hi5, hz5, hs5, hb5⟩ := inf5
  have F5 : Hid (Try.prog.info? 5 = some i5) := hi5
  have hmk := fun W => run_make_own (P := Try.prog) W W.heap.size 64 5 i5 (.int .u8 0) 1 und64 hi5 hz5 hs5 .i64 .i64 (2 * bs.length) (by rw [hb5]; omega) (by unfold maxLen; omega) (Nat.le_refl _)
  clear hi5
  have H28 : Hid (Calls Try.prog 28 #[.slice a m cap] w fun e w' => e = .returned (.string (strL bs)) ∧ Below w.heap.size w w') := h28
  clear h28
  obtain ⟨n, hn⟩ : ∃ n, bs.length = n := ⟨_, rfl⟩
  have hz : (strL bs).size = n := hn
  rw [hn] at hmk hl
  have hc2 : ((2 * n : Nat) : Int) = 2 * (n : Int) := by omega
  simp only [hc2] at hmk
  have hw2 : wrap64 (2 * (n : Int)) = 2 * (n : Int) := by unfold wrap64; omega
  go_enter Try.func29, Try.ntmps29
  go_wp2_with (go_at_call 28; refine H28.out.mono ?_; rintro e w1 ⟨rfl, b1⟩; obtain ⟨w2, hmk2, hown2, hg2⟩ := hmk w1; clear hmk)
  have b2 : Below w.heap.size w w2 := b1.trans ((Below.refl _ w1).grown hg2 (by have := b1.size; omega) (fun k e => by cases e))
  go_loopw [4, 14] (fun v c wr => ∃ k : Nat, k ≤ n ∧ c = .int .i64 (k : Int) ∧ wr.ownsRow w.heap.size 5 1 v ((bs.take k).flatMap hexB).length (((bs.take k).flatMap hexB).map byteV) ∧ Below w.heap.size w wr) (fun _ c _ => n - (intOf c).toNat)
  case atStart =>
    refine ⟨0, by omega, rfl, ?_, b2⟩
    have hle := b1.size
    obtain ⟨h1, h2⟩ := hown2
    refine ⟨h1, ?_⟩
    rcases h2 with q | ⟨g, cp, cur, e, hg, r⟩
    · exact .inl q
    · exact .inr ⟨g, cp, cur, e, by omega, r⟩
  case round =>
    obtain ⟨k, hk, rfl, hown, hB⟩ := hrel
    rcases Nat.lt_or_ge k n with hlt | hge
    · have hks : k < (strL bs).size := by omega
      obtain ⟨y, hye⟩ : ∃ y, (strL bs)[k]'hks = y := ⟨_, rfl⟩
      have hy : bs[k]? = some y := by rw [← hye, List.getElem?_eq_getElem (by omega)]; rfl
      have hyl : y.toNat < 256 := y.toNat_lt
      have f1 : (0 : Int) ≤ (y.toNat : Int) / 16 := by omega
      have f2 : (y.toNat : Int) / 16 < 16 := by omega
      have g1 : (0 : Int) ≤ (k : Int) := by omega
      have g2 : (k : Int) < (n : Int) := by omega
      have f3 : (0 : Int) ≤ (y.toNat : Int) % 16 := by omega
      have f4 : (y.toNat : Int) % 16 < 16 := by omega
      have hand := and15 y
      have e1 : ((y.toNat : Int) / 16).toNat = y.toNat / 16 := by omega
      have e2 : ((y.toNat : Int) % 16).toNat = y.toNat % 16 := by omega
      have x1 : ∀ h', (⟨#[48, 49, 50, 51, 52, 53, 54, 55, 56, 57, 97, 98, 99, 100, 101, 102]⟩ : ByteArray)[((y.toNat : Int) / 16).toNat]'h' = hexAt (y.toNat / 16) := fun h' => by
        have := hex_get (y.toNat / 16) (by omega) (by rw [← e1]; exact h')
        simp only [e1]; exact this
      have x2 : ∀ h', (⟨#[48, 49, 50, 51, 52, 53, 54, 55, 56, 57, 97, 98, 99, 100, 101, 102]⟩ : ByteArray)[((y.toNat : Int) % 16).toNat]'h' = hexAt (y.toNat % 16) := fun h' => by
        have := hex_get (y.toNat % 16) (by omega) (by rw [← e2]; exact h')
        simp only [e2]; exact this
      clear e1 e2
      obtain ⟨p1, hp1⟩ : ∃ p, hexAt (y.toNat / 16) = p := ⟨_, rfl⟩
      obtain ⟨p2, hp2⟩ : ∃ p, hexAt (y.toNat % 16) = p := ⟨_, rfl⟩
      rw [hp1] at x1
      rw [hp2] at x2
      have hown3 := (show wr.drew.ownsRow _ _ _ _ _ _ from hown).alloc (.cells #[.int .u8 (p1.toNat : Int), .int .u8 (p2.toNat : Int)] 5)
      have hnews : Hid (∀ (k : Nat) (u : Value), [Value.int .u8 (p1.toNat : Int), .int .u8 (p2.toNat : Int)][k]? = some u → (wr.drew.alloc (.cells #[.int .u8 (p1.toNat : Int), .int .u8 (p2.toNat : Int)] 5)).cell? ((⟨wr.heap.size, 0, none⟩ : Addr).add k) = some u) := World.news_of_block (heap_alloc_new wr.drew _)
      have hle : w.heap.size ≤ wr.heap.size := hB.size
      have hlen : ((bs.take k).flatMap hexB).length = 2 * k := by rw [hex_len, List.length_take]; omega
      rw [hlen] at hown3
      go_wp2_with fail
      go_region_law ((refine step_append_lies _ (by rfl) (.tmp 17) (.tmp 28) 64 (by rfl) w.heap.size 5 i5 (.int .u8 0) 1 1 und64 F5.out hz5 hs5 hb5 rfl (by omega) u4 (2 * k) _ (by rfl) hown3 ⟨wr.heap.size, 0, none⟩ 2 2 [.int .u8 (p1.toNat : Int), .int .u8 (p2.toNat : Int)] (by rfl) (by rfl) hnews.out (by intro u hu; simp at hu; rcases hu with rfl | rfl <;> rfl) (by omega) (by unfold maxLen; omega) (by omega) (by simp; omega) (wr.heap.size + 1) (by simp) ?_; intro g cap' w3 hown4 hgrow hat hlt4))
      all_goals
        have hB4 : Below w.heap.size w w3 := (hB.drew.alloc hle _).grown hgrow (by simp; omega) (fun j e => own_base hown j e)
        have htk : bs.take (k + 1) = bs.take k ++ [y] := by rw [List.take_add_one, hy]; rfl
        have hfl : ((bs.take (k + 1)).flatMap hexB).map byteV = ((bs.take k).flatMap hexB).map byteV ++ [.int .u8 (p1.toNat : Int), .int .u8 (p2.toNat : Int)] := by
          rw [htk, List.flatMap_append, List.map_append, ← hp1, ← hp2]; rfl
        have hln : ((bs.take (k + 1)).flatMap hexB).length = 2 * k + 2 := by rw [hex_len, List.length_take]; omega
        clear x1 x2 hye hand hown3 hnews hown
        go_wp2
        go_roundw
        case rel => exact ⟨k + 1, by omega, by simp, by rw [hfl, hln]; exact hown4, hB4⟩
        case measure => simp; omega
    · obtain rfl : k = n := by omega
      rw [List.take_of_length_le (by omega)] at hown
      have hcv := convert_own hown
      obtain ⟨a4, n4, c4, rfl⟩ := own_slice hown
      go_wp2
      go_ret
      exact ⟨rfl, hB⟩
theorem text_any (v : Value) (c : List Dt) (hl : c.length ≤ 1099511627776) (hf : Fit c) (w : World) (hv : Clk (Lt w.heap.size) w v c) :
    Calls Try.prog 29 #[v] w fun e w' => e = .returned (.string (strL (textC c))) ∧ Below w.heap.size w w' := by
  have h := bytes_any v c hl hf w hv
  obtain ⟨a, cap, rfl, _⟩ := id hv
  have n1 := norm_len c
  have n2 := numL_len10 (norm c).length (by omega)
  have n3 := dotB_len hf.norm
  refine hex_any (bytesC c) ?_ w _ _ _ h
  unfold bytesC bytesR
  rw [List.length_append]
  omega
end Go.Proofs.Ytbmeflildmeecaa
