/- ref06.Bytes (33). -/
import Derived.Deep.RegionHeld3
import Derived.Test.YtbmeflildmeecaaClRefNorm
import Derived.Test.YtbmeflildmeecaaClRefNum
namespace Go.Proofs.Ytbmeflildmeecaa
open Go.RowKit Go.Shelf Go.Sort Go.Lib Pk

theorem strL_append (a b : List UInt8) : strL a ++ strL b = strL (a ++ b) := by
  apply ByteArray.ext
  simp [strL]
theorem takeB_len {N : List Dt} {i : Nat} (hf : Fit N) (h : N.length ≤ 1099511627776) : ((N.take i).flatMap dotB).length ≤ 21990232555520 := by
  have h1 := dotB_len (c := N.take i) (fun d hd => hf d (List.mem_of_mem_take hd))
  have h2 : (N.take i).length ≤ N.length := (List.take_sublist i N).length_le
  omega
theorem wrap_step {i n : Nat} (h : n < 9223372036854775807) (hi : i < n) : wrap64 ((i : Int) + 1) = (i : Int) + 1 := by unfold wrap64; omega
set_option maxRecDepth 100000 in
set_option maxHeartbeats 8000000 in
theorem refBytes_any (v : Value) (c : List Dt) (hl : c.length ≤ 1099511627776) (hf : Fit c) (w : World) (hv : Clk (Lt w.heap.size) w v c) :
    Calls Try.prog 33 #[v] w fun e w' => e = .returned (.string (strL (bytesC c))) ∧ Below w.heap.size w w' := by
  obtain ⟨a, cap, rfl, _⟩ := id hv
  have h19 := refNorm_any (.slice a c.length cap) c hl w hv
  have H51 : Hid (∀ (n : Nat), n < 18446744073709551616 → ∀ W : World, Calls Try.prog 51 #[.int .u64 (n : Int)] W fun e w' => e = .returned (.string (strL (numL n))) ∧ Below W.heap.size W w') := fun n hn W => refNum_any n hn W
  have n1 := norm_len c
  have hfn := hf.norm
  unfold bytesC
  clear hv hf
  generalize norm c = N at *
  obtain ⟨n, hn⟩ : ∃ n, N.length = n := ⟨_, rfl⟩
  have hw : IntKind.u64.wrap (n : Int) = (n : Int) := by rw [wrap_u64]; omega
  unfold bytesR
  unfold Makes at h19
  rw [hn] at h19 ⊢
  have hnb : n < 18446744073709551616 := by omega
  go_enter Try.func33, Try.ntmps33
  go_wp2_with (first
    | (go_at_call 51; refine (H51.out n hnb w1).mono ?_; rintro e w2 ⟨rfl, b2⟩)
    | (go_at_call 19; refine h19.mono ?_; rintro e w1 ⟨a1, c1, rfl, k1, b1⟩))
  have kc := k1.made.up b2
  have b12 := below_trans b1 b2
  clear k1 b1 b2 h19
  obtain ⟨m, hm⟩ : ∃ m, w2.heap.size = m := ⟨_, rfl⟩
  go_loopw [3, 4] (fun s x wr => ∃ i : Nat, i ≤ n ∧ x = .int .i64 (i : Int) ∧ s = .string (strL (numL n ++ (N.take i).flatMap dotB)) ∧ Below m w2 wr) (fun _ x _ => n - (intOf x).toNat)
  case atStart => exact ⟨0, by omega, rfl, by simp, Below.refl _ _⟩
  case round =>
    obtain ⟨i, hi, rfl, rfl, hB⟩ := hrel
    rcases Nat.lt_or_ge i n with hlt | hge
    · have hx : N[i]? = some N[i] := List.getElem?_eq_getElem (by omega)
      obtain ⟨⟨p, q⟩, hxe⟩ : ∃ x, N[i] = x := ⟨_, rfl⟩
      rw [hxe] at hx
      obtain ⟨_, _, e9, hrw⟩ := id (kc.keep (Kp.ofBelow (G := Lt w2.heap.size) (hm ▸ hB) (fun _ h => h)))
      simp only [Value.slice.injEq] at e9
      obtain ⟨rfl, -, rfl⟩ := e9
      obtain ⟨b, o, rfl, hb, hr⟩ := hrw (by intro e; rw [e] at hx; simp at hx)
      obtain ⟨r1, r2⟩ := hr i _ hx
      obtain ⟨hp, hq⟩ := hfn _ (List.mem_of_getElem? hx)
      have hst : (N.take (i + 1)).flatMap dotB = (N.take i).flatMap dotB ++ (numL p ++ numL q) := by
        rw [List.take_add_one, hx, List.flatMap_append]; simp [dotB]
      have g1 : (0 : Int) ≤ (i : Int) := by omega
      have g2 : (i : Int) < (n : Int) := by omega
      simp only at r1 r2 hp hq
      have hle : m ≤ wr.heap.size := by have := hB.size; omega
      have hbw : b < wr.heap.size := by have : b < m := hm ▸ hb; omega
      have hn8 : n < 9223372036854775807 := by omega
      have hw8 : wrap64 ((i : Int) + 1) = (i : Int) + 1 := wrap_step hn8 hlt
      clear hr hrw hx hxe hw hn
      have hTl0 := takeB_len (i := i) hfn (Nat.le_trans n1 hl)
      generalize (N.take i).flatMap dotB = T at *
      have P51 : Hid (∀ W : World, Calls Try.prog 51 #[.int .u64 (p : Int)] W fun e w' => e = .returned (.string (strL (numL p))) ∧ Below W.heap.size W w') := H51.out p hp
      have Q51 : Hid (∀ W : World, Calls Try.prog 51 #[.int .u64 (q : Int)] W fun e w' => e = .returned (.string (strL (numL q))) ∧ Below W.heap.size W w') := H51.out q hq
      have lp := numL_len10 p hp
      have lq := numL_len10 q hq
      have ln := numL_len10 n hnb
      have hfin : strL (numL n ++ (T ++ (numL p ++ numL q))) = strL (numL n ++ T) ++ strL (numL p) ++ strL (numL q) := by rw [strL_append, strL_append]; simp
      have z1 : (strL (numL n ++ T)).size + (strL (numL p)).size ≤ 9223372036854775807 := by simp only [strL_size, List.length_append]; omega
      have z2 : (strL (numL n ++ T)).size + (strL (numL p)).size + (strL (numL q)).size ≤ 9223372036854775807 := by simp only [strL_size, List.length_append]; omega
      generalize strL (numL n ++ T) = A at *
      generalize strL (numL p) = Bp at *
      generalize strL (numL q) = Bq at *
      have z3 : ¬ 9223372036854775807 < (A ++ Bp).size + Bq.size := by rw [ByteArray.size_append]; omega
      have z4 : ¬ 9223372036854775807 < A.size + Bp.size := by omega
      have z5 : ¬ 9223372036854775807 < A.size + Bp.size + Bq.size := by omega
      clear lp lq ln z1 z2 hp hq hTl0
      go_wp2_with fail
      go_region_held3 (fun w' => w'.cell? ⟨b, o + i * 2, none⟩ = some (.int .u64 (p : Int)) ∧ w'.cell? ⟨b, o + i * 2 + 1, none⟩ = some (.int .u64 (q : Int))) (go_keep) (first
        | (go_at_call_of 51 (Value.int IntKind.u64 (p : Int)); refine (P51.out w5).mono ?_; rintro e w6 ⟨rfl, b6⟩; have hb5 := Nat.lt_of_lt_of_le hbw b5.size; have t1 : w6.cell? ⟨b, o + i * 2, none⟩ = some (.int .u64 (p : Int)) := (b6.cell (p := ⟨b, o + i * 2, none⟩) hb5).trans s1; have t2 : w6.cell? ⟨b, o + i * 2 + 1, none⟩ = some (.int .u64 (q : Int)) := (b6.cell (p := ⟨b, o + i * 2 + 1, none⟩) hb5).trans s2)
        | (go_at_call_of 51 (Value.int IntKind.u64 (q : Int)); refine (Q51.out w5).mono ?_; rintro e w6 ⟨rfl, b6⟩; have hb5 := Nat.lt_of_lt_of_le hbw b5.size; have t1 : w6.cell? ⟨b, o + i * 2, none⟩ = some (.int .u64 (p : Int)) := (b6.cell (p := ⟨b, o + i * 2, none⟩) hb5).trans s1; have t2 : w6.cell? ⟨b, o + i * 2 + 1, none⟩ = some (.int .u64 (q : Int)) := (b6.cell (p := ⟨b, o + i * 2 + 1, none⟩) hb5).trans s2)
        | (go_at_call_of 51 (Value.int IntKind.u64 (p : Int)); refine (P51.out wr.drew).mono ?_; rintro e w5 ⟨rfl, b5⟩; have s1 : w5.cell? ⟨b, o + i * 2, none⟩ = some (.int .u64 (p : Int)) := (b5.cell (p := ⟨b, o + i * 2, none⟩) hbw).trans r1; have s2 : w5.cell? ⟨b, o + i * 2 + 1, none⟩ = some (.int .u64 (q : Int)) := (b5.cell (p := ⟨b, o + i * 2 + 1, none⟩) hbw).trans r2)
        | (go_at_call_of 51 (Value.int IntKind.u64 (q : Int)); refine (Q51.out wr.drew).mono ?_; rintro e w5 ⟨rfl, b5⟩; have s1 : w5.cell? ⟨b, o + i * 2, none⟩ = some (.int .u64 (p : Int)) := (b5.cell (p := ⟨b, o + i * 2, none⟩) hbw).trans r1; have s2 : w5.cell? ⟨b, o + i * 2 + 1, none⟩ = some (.int .u64 (q : Int)) := (b5.cell (p := ⟨b, o + i * 2 + 1, none⟩) hbw).trans r2))
      all_goals
        have hB6 : Below m w2 w6 := hB.drew.trans ((b5.mono hle).trans (b6.mono (Nat.le_trans hle b5.size)))
        go_wp2
        go_roundw
        case rel => exact ⟨i + 1, by omega, by simp, by rw [hst, hfin], hB6⟩
        case measure => simp; omega
    · obtain rfl : i = n := by omega
      rw [List.take_of_length_le (by omega)]
      go_wp2
      go_ret
      exact ⟨rfl, below_trans b12 (hm ▸ hB)⟩
end Go.Proofs.Ytbmeflildmeecaa
