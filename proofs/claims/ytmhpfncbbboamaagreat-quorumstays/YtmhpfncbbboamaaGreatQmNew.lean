/- New (15). -/
import Derived.Test.YtmhpfncbbboamaaGreatQmAsk
namespace Go.Proofs.YtmhpfncbbboamaaGreat
open Go.RowKit Go.Maps

theorem TyAt.wide {lo hi lo' hi' : Nat} {rest : List Value} {ty : TypeId} {need prime : Int} {w : World} {b : Nat} {l : Ses} (h : TyAt lo hi rest ty need prime w b l) (h1 : lo' ≤ lo) (h2 : hi ≤ hi') (h3 : hi' ≤ w.heap.size) : TyAt lo' hi' rest ty need prime w b l := by
  obtain ⟨a1, a2, a3, a4, v, mb, hH, hm, hP, hR, hv⟩ := h
  exact ⟨⟨by omega, by omega⟩, h3, a3, a4, v, mb, hH, ⟨by omega, by omega⟩, hP, hR, fun g q => by have := hv g q; exact ⟨by omega, by omega, this.2.2⟩⟩
set_option maxRecDepth 100000 in
theorem ask_old {lo : Nat} {rest : List Value} {ty : TypeId} {need prime : Int} {w : World} {b : Nat} {l : Ses} (h : TyAt lo w.heap.size rest ty need prime w b l) (x f : Int) (hx : I64 x) (hn : hasN l x = true) :
    Calls Tryz.prog 27 #[.pointer (some ⟨b, 0, none⟩), .agg #[.int .i64 x, .int .i64 f]] w fun e w' => e = .returned (.tuple #[]) ∧ Gr w w' := by
  obtain ⟨h1, h2, h3, h4, v, mb, hH, hm, hP, hR, hv⟩ := h
  have hin : x ∈ l.map (·.1) := hasN_iff.1 hn
  go_enter Tryz.func27, Tryz.ntmps27
  go_upto_region 1 with fail
  have g01 : Gr w (w.alloc (.cells #[.int .i64 x, .int .i64 f] 53)) := Gr.alloc _ _
  have hB1 : Holds (w.alloc (.cells #[.int .i64 x, .int .i64 f] 53)) w.heap.size [.int .i64 x, .int .i64 f] 53 := holds_new w _ 53
  generalize w.heap.size = g1 at hB1 ⊢
  generalize w.alloc (.cells #[.int .i64 x, .int .i64 f] 53) = w1 at *
  refine r27_1 rfl b g1 mb x (plI (l.map (·.1)) x) true (fun y hy => (hH.below (g01.trans hy) hH.lt).at 1 _ rfl) (fun y hy => (hB1.below hy hB1.lt).at 0 _ rfl) (fun y hy => by
    have := (hP.gr (g01.trans hy)).look x hx
    rw [decide_eq_true hin] at this
    exact this) rfl rfl (fun z hz => ?_)
  simp only [putsL, List.foldl_cons, List.foldl_nil, put_lit, List.set_cons_succ, List.set_cons_zero]
  clear hB1 hH hP hR hv
  go_wp2
  exact bodyPost_ret (results_none (by kernel_rfl) _ _ _) rfl ⟨rfl, g01.trans hz⟩
theorem ask_any {lo : Nat} {rest : List Value} {ty : TypeId} {need prime : Int} {w : World} {b : Nat} {l : Ses} (h : TyAt lo w.heap.size rest ty need prime w b l) (x f : Int) (hx : I64 x) (hfew : l.length < 1000) :
    Calls Tryz.prog 27 #[.pointer (some ⟨b, 0, none⟩), .agg #[.int .i64 x, .int .i64 f]] w fun e w' => e = .returned (.tuple #[]) ∧ TyAt lo w'.heap.size rest ty need prime w' b (askS l (x, f)) ∧ Below lo w w' := by
  unfold askS
  cases hn : hasN l x with
  | true =>
    rw [if_pos rfl]
    exact (ask_old h x f hx hn).mono fun _ _ ⟨e1, e2⟩ => ⟨e1, (h.gr e2).wide (Nat.le_refl _) e2.size (Nat.le_refl _), Below.mono e2 (by have := h.low; omega)⟩
  | false =>
    rw [if_neg (by decide)]
    exact ask_new h x f hx hfew hn
/-- Targets in memory, in a block below B. -/
def TgAt (B : Nat) (w : World) (v : Value) (ts : List (Int × Int)) : Prop :=
  ∃ a cap, v = .slice a ts.length cap ∧ (ts = [] ∨ ∃ g o, a = some ⟨g, o, none⟩ ∧ g < B ∧ ∀ i p, ts[i]? = some p → w.cell? ⟨g, o + i * 2, none⟩ = some (.int .i64 p.1) ∧ w.cell? ⟨g, o + i * 2 + 1, none⟩ = some (.int .i64 p.2))
theorem TgAt.below {B : Nat} {w w' : World} {v : Value} {ts : List (Int × Int)} (h : TgAt B w v ts) (hb : Below B w w') : TgAt B w' v ts := by
  obtain ⟨a, cap, rfl, h0 | ⟨g, o, rfl, hg, hc⟩⟩ := h
  · exact ⟨a, cap, rfl, .inl h0⟩
  · refine ⟨_, cap, rfl, .inr ⟨g, o, rfl, hg, fun i p hp => ⟨?_, ?_⟩⟩⟩
    · exact (World.cell?_of_block (a := ⟨g, o + i * 2, none⟩) (hb.block g hg)).trans (hc i p hp).1
    · exact (World.cell?_of_block (a := ⟨g, o + i * 2 + 1, none⟩) (hb.block g hg)).trans (hc i p hp).2
theorem TgAt.mono {B B' : Nat} {w : World} {v : Value} {ts : List (Int × Int)} (h : TgAt B w v ts) (hB : B ≤ B') : TgAt B' w v ts := by
  obtain ⟨a, cap, rfl, h0 | ⟨g, o, rfl, hg, hc⟩⟩ := h
  · exact ⟨a, cap, rfl, .inl h0⟩
  · exact ⟨_, cap, rfl, .inr ⟨g, o, rfl, by omega, hc⟩⟩
theorem TgAt.cell {B : Nat} {w : World} {a : Option Addr} {n c : Nat} {ts : List (Int × Int)} (h : TgAt B w (.slice a n c) ts) (i : Nat) (p : Int × Int) (hi : ts[i]? = some p) : ∃ g o, a = some ⟨g, o, none⟩ ∧ w.cell? ⟨g, o + i * 2, none⟩ = some (.int .i64 p.1) ∧ w.cell? ⟨g, o + i * 2 + 1, none⟩ = some (.int .i64 p.2) := by
  obtain ⟨a', cap, e, h0 | ⟨g, o, e2, hg, hc⟩⟩ := h
  · subst h0; simp at hi
  · obtain ⟨rfl, _, _⟩ := Value.slice.inj e
    exact ⟨g, o, e2, hc i p hi⟩
theorem TgAt.len {B : Nat} {w : World} {v : Value} {ts : List (Int × Int)} (h : TgAt B w v ts) : ∃ a cap, v = .slice a ts.length cap := by
  obtain ⟨a, cap, rfl, _⟩ := h
  exact ⟨a, cap, rfl⟩
theorem take_snoc {α : Type} (ks : List α) (i : Nat) (h : i < ks.length) : ks.take (i + 1) = ks.take i ++ [ks[i]] := by
  rw [List.take_add_one, List.getElem?_eq_getElem h]; rfl
theorem ask_len (l : Ses) (t : Int × Int) : (askS l t).length ≤ l.length + 1 := by
  unfold askS
  split
  · omega
  · simp
theorem seats_len (ts : List (Int × Int)) : (seats ts).length ≤ ts.length := by
  unfold seats
  suffices h : ∀ l : Ses, (ts.foldl askS l).length ≤ l.length + ts.length by simpa using h []
  induction ts with
  | nil => intro l; simp
  | cons t ts ih =>
    intro l
    have := ih (askS l t)
    have := ask_len l t
    rw [List.foldl_cons, List.length_cons]; omega
theorem ty_made (w : World) (need prime : Int) : TyAt w.heap.size ((w.alloc (.map #[] 0)).alloc (.cells #[.slice none 0 0, .map (some w.heap.size), .int .i64 0, .int .i64 0, .int .i64 0, .int .i64 0, .int .i64 0, .int .i64 0, .int .i64 need, .int .i64 prime] 30)).heap.size [] 30 need prime ((w.alloc (.map #[] 0)).alloc (.cells #[.slice none 0 0, .map (some w.heap.size), .int .i64 0, .int .i64 0, .int .i64 0, .int .i64 0, .int .i64 0, .int .i64 0, .int .i64 need, .int .i64 prime] 30)) (w.heap.size + 1) [] := by
  refine ⟨⟨by omega, by simp⟩, Nat.le_refl _, once_nil, by simp, .slice none 0 0, w.heap.size, ?_, ⟨Nat.le_refl _, by simp; omega⟩, (pl_made w).gr (Gr.alloc _ _), ⟨rfl, .inl ⟨rfl, rfl⟩⟩, fun g q => nomatch q⟩
  have := new2 (w := w) (o1 := .map #[] 0) (o2 := .cells #[.slice none 0 0, .map (some w.heap.size), .int .i64 0, .int .i64 0, .int .i64 0, .int .i64 0, .int .i64 0, .int .i64 0, .int .i64 need, .int .i64 prime] 30)
  exact this
set_option maxRecDepth 100000 in
set_option maxHeartbeats 1000000 in
theorem new_any (v : Value) (ts : List (Int × Int)) (need prime : Int) (w : World) (hfew : ts.length ≤ 1000) (h64 : ∀ p ∈ ts, I64 p.1) (h : TgAt w.heap.size w v ts) :
    Calls Tryz.prog 15 #[v, .int .i64 need, .int .i64 prime] w fun e w' => e = .returned (.pointer (some ⟨w.heap.size + 1, 0, none⟩)) ∧ TyAt w.heap.size w'.heap.size [] 30 need prime w' (w.heap.size + 1) (seats ts) ∧ Below w.heap.size w w' := by
  obtain ⟨av, cv, rfl⟩ := h.len
  have hT0 := ty_made w need prime
  have hb0 : Below w.heap.size w ((w.alloc (.map #[] 0)).alloc (.cells #[.slice none 0 0, .map (some w.heap.size), .int .i64 0, .int .i64 0, .int .i64 0, .int .i64 0, .int .i64 0, .int .i64 0, .int .i64 need, .int .i64 prime] 30)) := al2
  obtain ⟨n, hn⟩ : ∃ n, ts.length = n := ⟨_, rfl⟩
  have HN : Hid (ts.length = n) := hn
  rw [hn]
  have hn1 : n ≤ 1000 := by omega
  have hTg : Hid (TgAt w.heap.size w (.slice av n cv) ts) := hn ▸ h
  obtain ⟨N, hN0⟩ : ∃ N, w.heap.size = N := ⟨_, rfl⟩
  have HN0 : Hid (w.heap.size = N) := hN0
  rw [hN0] at hT0 hb0 hTg ⊢
  have hmm := @run_makeMap Tryz.prog
  clear hn h hfew hN0
  go_enter Tryz.func15, Tryz.ntmps15
  go_upto_region 2 with fail
  rw [HN0.out]
  generalize (w.alloc (.map #[] 0)).alloc (.cells #[.slice none 0 0, .map (some N), .int .i64 0, .int .i64 0, .int .i64 0, .int .i64 0, .int .i64 0, .int .i64 0, .int .i64 need, .int .i64 prime] 30) = w0 at hT0 hb0 ⊢
  have HT0 : Hid (TyAt N w0.heap.size [] 30 need prime w0 (N + 1) (seats (ts.take 0)) ∧ Below N w w0) := ⟨hT0, hb0⟩
  clear hT0 hb0 hmm
  go_wp2
  go_loopw [18] (fun c wr => ∃ i : Nat, c = .int .i64 (i : Int) ∧ i ≤ n ∧ Hid (TyAt N wr.heap.size [] 30 need prime wr (N + 1) (seats (ts.take i)) ∧ Below N w wr)) (fun c _ => n - (intOf c).toNat)
  case atStart => exact ⟨0, rfl, Nat.zero_le _, HT0.out⟩
  case round =>
    obtain ⟨i, rfl, hi, hR⟩ := hrel
    by_cases hlt : i < n
    · have hil : i < ts.length := by rw [HN.out]; exact hlt
      obtain ⟨g, o, rfl, c0, c1⟩ := (hTg.out.below hR.out.2).cell i ts[i] (List.getElem?_eq_getElem hil)
      have h6 := h64 ts[i] (List.getElem_mem hil)
      have hask : Hid (∀ W, Gr wr W → Calls Tryz.prog 27 #[.pointer (some ⟨N + 1, 0, none⟩), .agg #[.int .i64 ts[i].1, .int .i64 ts[i].2]] W fun e w' => e = .returned (.tuple #[]) ∧ Hid (TyAt N w'.heap.size [] 30 need prime w' (N + 1) (seats (ts.take (i + 1))) ∧ Below N w w')) := fun W hW => by
        have hsl := seats_len (ts.take i)
        have htl : (ts.take i).length ≤ i := by rw [List.length_take]; omega
        rw [take_snoc ts i hil, seats_snoc]
        exact (ask_any ((hR.out.1.gr hW).wide (Nat.le_refl _) hW.size (Nat.le_refl _)) ts[i].1 ts[i].2 h6 (by omega)).mono fun _ _ ⟨e1, e2, e3⟩ => ⟨e1, e2, hR.out.2.trans ((Below.mono hW (by have := hR.out.1.low; omega)).trans e3)⟩
      generalize ts[i].1 = x at *
      generalize ts[i].2 = f at *
      have hg1 : Hid (Gr wr (wr.alloc (.cells #[.int .i64 x, .int .i64 f] 53))) := Gr.alloc _ _
      clear h6 hR
      go_wp2_with (go_at_call 27; refine (hask.out _ hg1.out).mono ?_; rintro e w2 ⟨rfl, h2⟩)
      exact ⟨⟨i + 1, by simp, by omega, h2⟩, by simp [intOf]; omega⟩
    · obtain rfl : i = n := by omega
      have : ts.take i = ts := List.take_of_length_le (by rw [HN.out]; exact Nat.le_refl _)
      rw [this] at hR
      go_wp2
      go_ret
      exact ⟨rfl, hR.out⟩
end Go.Proofs.YtmhpfncbbboamaaGreat
