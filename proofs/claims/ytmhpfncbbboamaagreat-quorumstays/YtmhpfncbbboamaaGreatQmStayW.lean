/- The law QuorumStays (5), walked. -/
import Derived.Test.YtmhpfncbbboamaaGreatQmStayA
import Derived.Test.YtmhpfncbbboamaaGreatQmStayB
namespace Go.Proofs.YtmhpfncbbboamaaGreat
open Go.RowKit Go.Maps

theorem TgAt.first {B : Nat} {w : World} {ta : Option Addr} {tc : Nat} {ts : List (Int × Int)} (k c : Nat) (h : TgAt B w (.slice ta ts.length tc) ts) (hk : k ≤ ts.length) : TgAt B w (.slice ta k c) (ts.take k) := by
  obtain ⟨a, cap, e, hc⟩ := h
  obtain ⟨rfl, _, _⟩ := Value.slice.inj e
  refine ⟨ta, c, by rw [List.length_take, Nat.min_eq_left hk], ?_⟩
  rcases hc with h0 | ⟨g, o, e1, hg, hx⟩
  · exact .inl (by rw [h0]; simp)
  · refine .inr ⟨g, o, e1, hg, fun i p hp => hx i p ?_⟩
    have hi : i < k := by
      have := (List.getElem?_eq_some_iff.1 hp).1
      rw [List.length_take] at this; omega
    rw [List.getElem?_take_of_lt hi] at hp
    exact hp
theorem OpAt.first {B : Nat} {w : World} {a : Option Addr} {os : List Opq} (k : Nat) (h : OpAt B w a os) : OpAt B w a (os.take k) := by
  rcases h with h0 | ⟨g, q, rfl, hg, hc⟩
  · exact .inl (by rw [h0]; simp)
  · refine .inr ⟨g, q, rfl, hg, fun i o hi => hc i o ?_⟩
    have hik : i < k := by
      have := (List.getElem?_eq_some_iff.1 hi).1
      rw [List.length_take] at this; omega
    rw [List.getElem?_take_of_lt hik] at hi
    exact hi
theorem Hid.mkW {p : Prop} (h : p) : Hid p := h
set_option maxRecDepth 100000 in
set_option maxHeartbeats 4000000 in
theorem stays_walk (a p : Int) (tn tc sn sc : Nat) (ta sa : Option Addr) (ts : List (Int × Int)) (os : List Opq) (htl : ts.length = tn) (hsl : os.length = sn) (htm : tn ≤ 9223372036854775807) (htc : tn ≤ tc) (hsm : sn ≤ 9223372036854775807) (h64 : ∀ q ∈ ts, I64 q.1) (hok : ∀ o ∈ os, okO o) (w : World) (bT : TgAt w.heap.size w (.slice ta tn tc) ts) (bS : OpAt w.heap.size w sa os) :
    Calls Tryz.prog 5 #[.slice ta tn tc, .agg #[.int .i64 a, .int .i64 p], .slice sa sn sc] w fun e w' => e = .returned (.bool true) ∧ Gr w w' := by
  have c8 : Hid (Calls Tryz.prog 8 #[] (w.alloc (.cells #[.int .i64 a, .int .i64 p] 57)) fun e w' => e = .returned (.bool true) ∧ Hid (Gr w w' ∧ Holds w' w.heap.size [.int .i64 a, .int .i64 p] 57)) := (awake_any _).mono fun e w' ⟨e1, e2⟩ => by
    have hH := holds_new w [.int .i64 a, .int .i64 p] 57
    exact ⟨e1, al1.trans e2, hH.below e2 hH.lt⟩
  have tail : Hid (∀ (s19 s20 s21 s22 s23 : Value) (k c : Nat) (W : World), k ≤ tn → k ≤ 20 → (Gr w W ∧ Holds W w.heap.size [.int .i64 a, .int .i64 p] 57) → TgAt w.heap.size w (.slice ta k c) (ts.take k) → _) := fun s19 s20 s21 s22 s23 k c W hk hk20 hW hT => by
    have hts : (ts.take k).length = k := by rw [List.length_take, htl]; omega
    by_cases hs : sn ≤ 60
    · exact stay_tailA s19 s20 s21 s22 s23 (.agg #[.int .i64 a, .int .i64 p]) k c sn sc w.heap.size sn ta sa (ts.take k) os a p w W hts (by omega) (fun q hq => h64 q (List.mem_of_mem_take hq)) hsl rfl hs hsm hok (hT.below hW.1) (bS.below hW.1) hW.2 hW.1
    · exact stay_tailB s19 s20 s21 s22 s23 (.agg #[.int .i64 a, .int .i64 p]) k c sn sc w.heap.size 60 ta sa (ts.take k) (os.take 60) a p w W hts (by omega) (fun q hq => h64 q (List.mem_of_mem_take hq)) (by rw [List.length_take, hsl]; omega) rfl (by omega) hsm (fun o ho => hok o (List.mem_of_mem_take ho)) (hT.below hW.1) ((bS.first 60).below hW.1) hW.2 hW.1
  have HR : Hid (TgAt w.heap.size w (.slice ta tn tc) ts ∧ ts.length = tn) := ⟨bT, htl⟩
  clear bT bS htl hsl h64 hok
  go_enter Tryz.func5, Tryz.ntmps5
  refine wp_seq_k fun K0 h0 => ?_; have H0 := Hid.mkW h0; clear h0
  go_wp2
  refine H0.out _ _ ?_
  clear H0 K0
  refine wp_seq_k fun K1 h1 => ?_; have H1 := Hid.mkW h1; clear h1
  go_wp2_with (go_at_call 8; refine c8.out.mono ?_; rintro e W ⟨rfl, hW⟩; clear c8)
  refine H1.out _ _ ?_
  clear H1 K1
  refine wp_seq_k fun K2 h2 => ?_; have H2 := Hid.mkW h2; clear h2
  by_cases hc : (20 : Int) < (tn : Int)
  · have hc2 : (20 : Int) ≤ (tc : Int) := by omega
    go_wp2
    refine H2.out _ _ ?_
    refine tail.out _ _ _ _ _ 20 tc W (by omega) (by omega) hW.out ?_
    have := HR.out.1
    rw [← HR.out.2] at this
    exact this.first 20 tc (by have := HR.out.2; omega)
  · go_wp2
    refine H2.out _ _ ?_
    refine tail.out _ _ _ _ _ tn tc W (by omega) (by omega) hW.out ?_
    have h1 := HR.out.1
    have h2 : ts.take tn = ts := List.take_of_length_le (by rw [HR.out.2]; exact Nat.le_refl _)
    rw [h2]; exact h1
end Go.Proofs.YtmhpfncbbboamaaGreat
