/- ref02.Num (51): a number's bytes. -/
import Derived.Test.YtbmeflildmeecaaMerges
namespace Go.Proofs.Ytbmeflildmeecaa
open Go.RowKit Go.Shelf Go.Sort Go.Lib Pk

set_option maxRecDepth 100000 in
set_option maxHeartbeats 4000000 in
theorem refNum_any (n : Nat) (hn : n < 18446744073709551616) (w : World) :
    Calls Try.prog 51 #[.int .u64 (n : Int)] w fun e w' => e = .returned (.string (strL (numL n))) ∧ Below w.heap.size w w' := by
  obtain ⟨i5, hi5, hz5, hs5, hb5⟩ := inf5
  have F5 : Hid (Try.prog.info? 5 = some i5) := hi5
  clear hi5
  have h10 := numL_len10 n hn
  go_enter Try.func51, Try.ntmps51
  go_wp2_with fail
  go_loopw [0, 3] (fun x v wr => ∃ (m : Nat) (p : List UInt8), m ≤ n ∧ x = .int .u64 (m : Int) ∧ numL n = p ++ numL m ∧ wr.ownsRow w.heap.size 5 1 v p.length (p.map byteV) ∧ Below w.heap.size w wr) (fun x _ _ => (intOf x).toNat)
  case atStart => exact ⟨n, [], Nat.le_refl _, rfl, rfl, World.ownsRow_nil _ _ _ _, Below.refl _ _⟩
  case round =>
    obtain ⟨m, p, hm, rfl, hp, hown, hB⟩ := hrel
    have hpl : p.length ≤ 10 := by rw [hp] at h10; simp at h10; omega
    have hle := hB.size
    have hP : Hid (numL n = p ++ numL m) := hp
    clear hp h10
    generalize hN : p.length = N at hown hpl
    by_cases hlt : (127 : Int) < (m : Int)
    · have hm2 : ¬ m < 128 := by omega
      have hwr : IntKind.u8.wrap (128 + (m : Int) % 128) = 128 + (m : Int) % 128 := by rw [wrap_u8]; omega
      have hwr2 : (128 + (m : Int) % 128) % 256 = 128 + (m : Int) % 128 := by omega
      have hw64 : IntKind.u64.wrap (128 + (m : Int) % 128) = 128 + (m : Int) % 128 := by rw [wrap_u64]; omega
      have htm : (m : Int).tmod 128 = (m : Int) % 128 := Int.tmod_eq_emod_of_nonneg (by omega)
      have htd : (m : Int).tdiv 128 = ((m / 128 : Nat) : Int) := by rw [Int.tdiv_eq_ediv_of_nonneg (by omega)]; omega
      have hnews : Hid (∀ (k : Nat) (u : Value), [Value.int .u8 (128 + (m : Int) % 128)][k]? = some u → (wr.alloc (.cells #[.int .u8 (128 + (m : Int) % 128)] 5)).cell? ((⟨wr.heap.size, 0, none⟩ : Addr).add k) = some u) := World.news_of_block (heap_alloc_new wr _)
      go_wp2_with (first
        | (at_builtin; refine wpList_append_lies _ rfl (.tmp 6) (.tmp 11) 64 rfl w.heap.size 5 i5 (.int .u8 0) 1 1 und64 F5.out hz5 hs5 hb5 rfl (by omega) u3 N (p.map byteV) rfl (hown.alloc _) ⟨wr.heap.size, 0, none⟩ 1 1 [.int .u8 (128 + (m : Int) % 128)] rfl rfl hnews.out (by intro u hu; simp at hu; subst hu; rfl) (by omega) (by unfold maxLen; omega) (by omega) (by simp; omega) (wr.heap.size + 1) (by simp) ?_; intro g cap' w5 hown5 hgrow hat hlt5))
      have hbv : Value.int .u8 (128 + (m : Int) % 128) = byteV (UInt8.ofNat (m % 128 + 128)) := by rw [byteV_ofNat]; congr 1; omega
      go_roundw
      case rel =>
        refine ⟨m / 128, p ++ [UInt8.ofNat (m % 128 + 128)], by omega, rfl, ?_, ?_, (hB.alloc hle _).grown hgrow (by simp; omega) (fun j e => own_base hown j e)⟩
        · rw [hP.out, numL_big hm2]; simp
        · rw [hbv] at hown5
          have e1 : (p ++ [UInt8.ofNat (m % 128 + 128)]).map byteV = p.map byteV ++ [byteV (UInt8.ofNat (m % 128 + 128))] := by simp
          have e2 : (p ++ [UInt8.ofNat (m % 128 + 128)]).length = N + 1 := by simp [hN]
          rw [e1, e2]
          exact hown5
      case measure => simp; omega
    · have hm2 : m < 128 := by omega
      have hwr : IntKind.u8.wrap (m : Int) = (m : Int) := by rw [wrap_u8]; omega
      have hme : (m : Int) % 256 = (m : Int) := by omega
      have hnews : Hid (∀ (k : Nat) (u : Value), [Value.int .u8 (m : Int)][k]? = some u → (wr.alloc (.cells #[.int .u8 (m : Int)] 5)).cell? ((⟨wr.heap.size, 0, none⟩ : Addr).add k) = some u) := World.news_of_block (heap_alloc_new wr _)
      have hbv2 : ∀ w5 v', w5.ownsRow w.heap.size 5 1 v' (N + 1) (p.map byteV ++ [.int .u8 (m : Int)]) → (convert 64 9 v').run Try.prog w5 = .ok (.string (strL (numL n))) w5 := fun w5 v' h => by
        have hx : Value.int .u8 (m : Int) = byteV (UInt8.ofNat m) := by rw [byteV_ofNat, hme]
        have e1 : (numL n).map byteV = p.map byteV ++ [.int .u8 (m : Int)] := by rw [hP.out, numL_small hm2, hx]; simp
        have e2 : (numL n).length = N + 1 := by rw [hP.out, numL_small hm2]; simp [hN]
        rw [← e1, ← e2] at h
        exact convert_own h
      go_wp2_with (first
        | (at_builtin; refine wpList_append_lies _ rfl (.tmp 15) (.tmp 18) 64 rfl w.heap.size 5 i5 (.int .u8 0) 1 1 und64 F5.out hz5 hs5 hb5 rfl (by omega) u3 N (p.map byteV) rfl (hown.alloc _) ⟨wr.heap.size, 0, none⟩ 1 1 [.int .u8 (m : Int)] rfl rfl hnews.out (by intro u hu; simp at hu; subst hu; rfl) (by omega) (by unfold maxLen; omega) (by omega) (by simp; omega) (wr.heap.size + 1) (by simp) ?_; intro g cap' w5 hown5 hgrow hat hlt5; have hcv := hbv2 w5 _ hown5))
      go_ret
      exact ⟨rfl, (hB.alloc hle _).grown hgrow (by simp; omega) (fun j e => own_base hown j e)⟩
end Go.Proofs.Ytbmeflildmeecaa
