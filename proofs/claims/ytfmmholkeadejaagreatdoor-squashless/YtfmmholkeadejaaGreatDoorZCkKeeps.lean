/- CaskKeeps's rounds: the calls on the states. -/
import Derived.Test.YtfmmholkeadejaaGreatDoorZCkKp
import Derived.Test.YtfmmholkeadejaaGreatDoorZCkLast
namespace Go.Proofs.YtfmmholkeadejaaGreatDoor
open Go.RowKit

theorem delete_broken (c d mb : Nat) (sv : Value) (K : Ck) (a : Option Addr) (n q : Nat) (w : World) (h : Holds w c (ckV d mb sv K) 28) (hb : K.broken = true) : Calls Tryz.prog 19 #[.pointer (some ⟨c, 0, none⟩), .slice a n q] w fun e w' => e = .returned (.int .i64 24) ∧ w' = w := by
  have hr : Hid (Calls Tryz.prog 56 #[.pointer (some ⟨c, 0, none⟩)] w fun e w' => e = .returned (.int .i64 24) ∧ w' = w) := by
    have := ready_some c d mb sv K w h
    rw [readyE, if_pos hb] at this
    exact this
  go_enter Tryz.func19, Tryz.ntmps19
  go_wp2_with (go_at_call 56; refine hr.out.mono ?_; rintro e w1 ⟨rfl, rfl⟩)
  go_ret
  exact ⟨rfl, rfl⟩
/-- Between two calls. -/
structure KS (w : World) (N : Lo) (c d mb : Nat) (S : Dk) (K : Ck) (ps all : List Ch) (firm i : Nat) (W : World) (v : Value) : Prop where
  cur : Cur w W N c d mb S K
  kp : Kp S K ps firm i
  row : W.ownsRow w.heap.size 52 3 v all.length (rowI all)
def KI (w : World) (c d : Nat) (ps all : List Ch) (firm i : Nat) (W : World) (v : Value) : Prop := ∃ N mb S K, KS w N c d mb S K ps all firm i W v
theorem KS.below {w W W' : World} {N : Lo} {c d mb : Nat} {S : Dk} {K : Ck} {ps all : List Ch} {firm i : Nat} {v : Value} (h : KS w N c d mb S K ps all firm i W v) (hb : Below W.heap.size W W') : KS w N c d mb S K ps all firm i W' v :=
  ⟨h.cur.below hb, h.kp, row52 (Oth.ofBelow hb) h.row⟩
theorem KI.below {w W W' : World} {c d : Nat} {ps all : List Ch} {firm i : Nat} {v : Value} (h : KI w c d ps all firm i W v) (hb : Below W.heap.size W W') : KI w c d ps all firm i W' v := by
  obtain ⟨N, mb, S, K, h⟩ := h
  exact ⟨N, mb, S, K, h.below hb⟩
theorem KI.bel {w W : World} {c d : Nat} {ps all : List Ch} {firm i : Nat} {v : Value} (h : KI w c d ps all firm i W v) : Below w.heap.size w W := by
  obtain ⟨N, mb, S, K, h⟩ := h
  exact h.cur.bel
theorem KI.row {w W : World} {c d : Nat} {ps all : List Ch} {firm i : Nat} {v : Value} (h : KI w c d ps all firm i W v) : W.ownsRow w.heap.size 52 3 v all.length (rowI all) := by
  obtain ⟨N, mb, S, K, h⟩ := h
  exact h.row
theorem Kp.room {w0 W : World} {N : Lo} {c d mb : Nat} {S : Dk} {K : Ck} {ps : List Ch} {firm i : Nat} (h : Kp S K ps firm i) (hc : Cur w0 W N c d mb S K) (hb : K.broken = false) (hi : i < 200) : Room4 S K := by
  obtain ⟨L, b, b', mo, mo', m, x⟩ := h.ex
  obtain ⟨hon, hg, e, hq⟩ := x.whole hb
  have := h.fs
  have := h.new
  have := x.many
  have := x.long
  exact room_of hc hg (by omega) (by omega) (by omega) (by omega)
/-- What a round's change comes to. -/
theorem keeps_put {w W0 : World} {N : Lo} {c d mb : Nat} {S : Dk} {K : Ck} {all : List Ch} {firm i : Nat} {v0 : Value} (h0 : KS w N c d mb S K all all firm i W0 v0) (hi : i < 200) (k u : ByteArray) :
    ∃ E, (E = 23 → K.broken = false) ∧
      ((E = 0 ∨ E = 23) → ∀ W v, KS w N c d mb S K all all firm i W v → Calls Tryz.prog 18 #[.pointer (some ⟨c, 0, none⟩), .string k, .string u] W fun e w' => e = .returned (.int .i64 E) ∧ KI w c d (all ++ [⟨k, u, false⟩]) all firm (i + 1) w' v ∧ Oth W w') ∧
      (¬ (E = 0 ∨ E = 23) → ∀ W v, KS w N c d mb S K all all firm i W v → Calls Tryz.prog 18 #[.pointer (some ⟨c, 0, none⟩), .string k, .string u] W fun e w' => e = .returned (.int .i64 E) ∧ KI w c d all all firm (i + 1) w' v ∧ Oth W w') := by
  cases hb : K.broken with
  | true =>
    refine ⟨24, fun e => (by cases e), fun e => (by simp at e), fun _ W v h => ?_⟩
    obtain ⟨sv, o⟩ := h.cur.op
    refine (put_broken c d mb sv K k u W o.holds hb).mono ?_
    rintro e w' ⟨e1, rfl⟩
    exact ⟨e1, ⟨N, mb, S, K, h.cur, h.kp.mono (by omega), h.row⟩, Oth.refl _⟩
  | false =>
    by_cases hE : cfE k u = 0
    · have hp := fun W v (h : KS w N c d mb S K all all firm i W v) => cur_put h.cur k u hE hb (h.kp.room h.cur hb hi)
      rcases h0.kp.write hb h0.cur.dfine.rise h0.cur.fine (by omega) ⟨k, u, false⟩ hE with ⟨e, q⟩ | ⟨e, q⟩ | ⟨e, q⟩
      · refine ⟨0, fun e => (by cases e), fun _ W v h => (hp W v h).mono fun x w' ⟨e1, e2, e3⟩ => ?_, fun q => absurd (.inl rfl) q⟩
        rw [e, if_pos rfl] at e2
        exact ⟨by rw [e1, e], ⟨N, mb, _, _, e2, q, row52 e3 h.row⟩, e3⟩
      · refine ⟨23, fun _ => rfl, fun _ W v h => (hp W v h).mono fun x w' ⟨e1, e2, e3⟩ => ?_, fun q => absurd (.inr rfl) q⟩
        rw [e, if_neg (by decide)] at e2
        exact ⟨by rw [e1, e], ⟨N, mb, _, _, e2, q, row52 e3 h.row⟩, e3⟩
      · refine ⟨22, fun e => (by cases e), fun e => (by simp at e), fun _ W v h => (hp W v h).mono fun x w' ⟨e1, e2, e3⟩ => ?_⟩
        rw [e, if_neg (by decide)] at e2
        exact ⟨by rw [e1, e], ⟨N, mb, _, _, e2, q, row52 e3 h.row⟩, e3⟩
    · have h1 : cfE k u ≠ 23 := by unfold cfE; split <;> (try split) <;> decide
      refine ⟨cfE k u, fun e => absurd e h1, fun e => e.elim (fun e => absurd e hE) (fun e => absurd e h1), fun _ W v h => (cur_put_bad h.cur k u hE hb).mono fun x w' ⟨e1, e2, e3⟩ => ⟨e1, ⟨N, mb, S, K, e2, h.kp.mono (by omega), row52 e3 h.row⟩, e3⟩⟩
theorem keeps_del {w W0 : World} {N : Lo} {c d mb : Nat} {S : Dk} {K : Ck} {all : List Ch} {firm i : Nat} {v0 : Value} (h0 : KS w N c d mb S K all all firm i W0 v0) (hi : i < 200) (k : ByteArray) (hk : k.size ≤ maxLen) :
    ∃ E, (E = 23 → K.broken = false) ∧
      ((E = 0 ∨ E = 23) → ∀ W v g q, KS w N c d mb S K all all firm i W v → W.cell? ⟨g, 0, none⟩ = some (.string k) → Calls Tryz.prog 19 #[.pointer (some ⟨c, 0, none⟩), .slice (some ⟨g, 0, none⟩) 1 q] W fun e w' => e = .returned (.int .i64 E) ∧ KI w c d (all ++ [⟨k, ⟨#[]⟩, true⟩]) all firm (i + 1) w' v ∧ Oth W w') ∧
      (¬ (E = 0 ∨ E = 23) → ∀ W v g q, KS w N c d mb S K all all firm i W v → W.cell? ⟨g, 0, none⟩ = some (.string k) → Calls Tryz.prog 19 #[.pointer (some ⟨c, 0, none⟩), .slice (some ⟨g, 0, none⟩) 1 q] W fun e w' => e = .returned (.int .i64 E) ∧ KI w c d all all firm (i + 1) w' v ∧ Oth W w') := by
  cases hb : K.broken with
  | true =>
    refine ⟨24, fun e => (by cases e), fun e => (by simp at e), fun _ W v g q h _ => ?_⟩
    obtain ⟨sv, o⟩ := h.cur.op
    refine (delete_broken c d mb sv K _ _ _ W o.holds hb).mono ?_
    rintro e w' ⟨e1, rfl⟩
    exact ⟨e1, ⟨N, mb, S, K, h.cur, h.kp.mono (by omega), h.row⟩, Oth.refl _⟩
  | false =>
    cases hg : get K.kv k.data.toList with
    | none => exact ⟨21, fun e => (by cases e), fun e => (by simp at e), fun _ W v g q h hc => (cur_del_gone h.cur k hk g q hg hc hb).mono fun x w' ⟨e1, e2, e3⟩ => ⟨e1, ⟨N, mb, S, K, e2, h.kp.mono (by omega), row52 e3 h.row⟩, e3⟩⟩
    | some f =>
      have hE : cfE k ⟨#[]⟩ = 0 := by
        obtain ⟨L, b, b', mo, mo', m, x⟩ := h0.kp.ex
        obtain ⟨hon, hgd, e, hq⟩ := x.whole hb
        rw [hgd.kv] at hg
        obtain ⟨c', hc', e⟩ := kvOf_key (L.flatMap Sg.cs) hg
        have : c'.k = k := bytes_ext e
        obtain ⟨y, hy, hy2⟩ := List.mem_flatMap.1 hc'
        rw [← this]
        exact cfE_key (x.sound.oks y hy c' hy2)
      have hp := fun W v g q (h : KS w N c d mb S K all all firm i W v) hc => cur_del h.cur k hE g q f hg hc hb (h.kp.room h.cur hb hi)
      rcases h0.kp.write hb h0.cur.dfine.rise h0.cur.fine (by omega) ⟨k, ⟨#[]⟩, true⟩ hE with ⟨e, q⟩ | ⟨e, q⟩ | ⟨e, q⟩
      · refine ⟨0, fun e => (by cases e), fun _ W v g q' h hc => (hp W v g q' h hc).mono fun x w' ⟨e1, e2, e3⟩ => ?_, fun q => absurd (.inl rfl) q⟩
        rw [e, if_pos rfl] at e2
        exact ⟨by rw [e1, e], ⟨N, mb, _, _, e2, q, row52 e3 h.row⟩, e3⟩
      · refine ⟨23, fun _ => rfl, fun _ W v g q' h hc => (hp W v g q' h hc).mono fun x w' ⟨e1, e2, e3⟩ => ?_, fun q => absurd (.inr rfl) q⟩
        rw [e, if_neg (by decide)] at e2
        exact ⟨by rw [e1, e], ⟨N, mb, _, _, e2, q, row52 e3 h.row⟩, e3⟩
      · refine ⟨22, fun e => (by cases e), fun e => (by simp at e), fun _ W v g q' h hc => (hp W v g q' h hc).mono fun x w' ⟨e1, e2, e3⟩ => ?_⟩
        rw [e, if_neg (by decide)] at e2
        exact ⟨by rw [e1, e], ⟨N, mb, _, _, e2, q, row52 e3 h.row⟩, e3⟩
theorem keeps_broken {w W : World} {N : Lo} {c d mb : Nat} {S : Dk} {K : Ck} {ps all : List Ch} {firm i : Nat} {v : Value} (h : KS w N c d mb S K ps all firm i W v) :
    Calls Tryz.prog 28 #[.pointer (some ⟨c, 0, none⟩)] W fun e w' => e = .returned (.bool K.broken) ∧ w' = W := cur_broken h.cur
theorem keeps_sync {w W0 : World} {N : Lo} {c d mb : Nat} {S : Dk} {K : Ck} {all : List Ch} {firm i : Nat} {v0 : Value} (h0 : KS w N c d mb S K all all firm i W0 v0) :
    ∃ E, (E = 0 → ∀ W v, KS w N c d mb S K all all firm i W v → Calls Tryz.prog 20 #[.pointer (some ⟨c, 0, none⟩)] W fun e w' => e = .returned (.int .i64 E) ∧ KI w c d all all all.length (i + 1) w' v) ∧
      (E ≠ 0 → ∀ W v, KS w N c d mb S K all all firm i W v → Calls Tryz.prog 20 #[.pointer (some ⟨c, 0, none⟩)] W fun e w' => e = .returned (.int .i64 E) ∧ KI w c d all all firm (i + 1) w' v) := by
  cases hb : K.broken with
  | true =>
    refine ⟨24, fun e => (by cases e), fun _ W v h => ?_⟩
    obtain ⟨sv, o⟩ := h.cur.op
    refine (csync_broken c d mb sv K W o.holds hb).mono ?_
    rintro e w' ⟨e1, rfl⟩
    exact ⟨e1, N, mb, S, K, h.cur, h.kp.mono (by omega), h.row⟩
  | false =>
    rcases h0.kp.sync hb h0.cur.dfine.rise h0.cur.fine with ⟨e, q⟩ | ⟨e, q⟩
    · exact ⟨0, fun _ W v h => (cur_sync h.cur hb).mono fun x w' ⟨e1, e2, e3⟩ => ⟨by rw [e1, e], N, mb, _, _, e2, q.mono (by omega), row52 e3 h.row⟩, fun q => absurd rfl q⟩
    · exact ⟨23, fun e => (by cases e), fun _ W v h => (cur_sync h.cur hb).mono fun x w' ⟨e1, e2, e3⟩ => ⟨by rw [e1, e], N, mb, _, _, e2, q.mono (by omega), row52 e3 h.row⟩⟩
theorem Cur.disked {w0 W W' : World} {N : Lo} {c d mb : Nat} {S S' : Dk} {K : Ck} (h : Cur w0 W N c d mb S K) (hu : DUpd N W W') (hd : DiskAt W' N d S') : Cur w0 W' N c d mb S' K := by
  obtain ⟨sv, o⟩ := h.op
  have hB := hu.below h.sz
  exact ⟨⟨sv, o.dupd hu hd⟩, h.lo, h.tab.on hB, h.bel.trans (by have := h.lo; rw [← this]; exact hB)⟩
theorem Cur.disk {w0 W : World} {N : Lo} {c d mb : Nat} {S : Dk} {K : Ck} (h : Cur w0 W N c d mb S K) : DiskAt W N d S := by
  obtain ⟨sv, o⟩ := h.op
  exact o.disk
theorem keeps_arm {w W : World} {N : Lo} {c d mb : Nat} {S : Dk} {K : Ck} {all : List Ch} {firm i : Nat} {v : Value} (h : KS w N c d mb S K all all firm i W v) (r : Int) (hr : -9223372036854775808 ≤ r ∧ r < 9223372036854775808) :
    Calls Tryz.prog 30 #[.pointer (some ⟨d, 0, none⟩), .int .i64 r] W fun e w' => e = .returned (.tuple #[]) ∧ KI w c d all all firm (i + 1) w' v :=
  (arm_some N d S r hr W h.cur.disk).mono fun e w' ⟨e1, e2, e3⟩ => ⟨e1, N, mb, _, K, h.cur.disked e3 e2, (h.kp.of (by rfl) (by rfl)).mono (by omega), row52 (Oth.ofD e3) h.row⟩
/-- A disk behind a crash. -/
structure KD (w : World) (N : Lo) (d : Nat) (S : Dk) (all : List Ch) (firm i : Nat) (L : List Sg) (a : Nat) (W : World) (v : Value) : Prop where
  cur : DCur w W N d S
  cr : CrX S all firm i L a
  row : W.ownsRow w.heap.size 52 3 v all.length (rowI all)
/-- A cask that was opened behind it. -/
def KO (w : World) (c d : Nat) (all : List Ch) (firm i : Nat) (kv : Fs) (W : World) (v : Value) : Prop := ∃ N mb S K, Cur w W N c d mb S K ∧ Od S K all firm i kv ∧ W.ownsRow w.heap.size 52 3 v all.length (rowI all)
theorem keeps_crash {w W : World} {N : Lo} {c d mb : Nat} {S : Dk} {K : Ck} {all : List Ch} {firm i : Nat} {v : Value} (h : KS w N c d mb S K all all firm i W v) (pk : List Int) (hpk : ∀ p ∈ pk, -9223372036854775808 ≤ p ∧ p < 9223372036854775808) (L : List Sg) (b : Nat) (hL : CrX (crashS S pk) all firm i L b) (a : Option Addr) (q : Nat) (hc : pk.length ≤ q) (hm : q ≤ maxLen) (ha : IntsAt W N a pk) :
    Calls Tryz.prog 31 #[.pointer (some ⟨d, 0, none⟩), .slice a pk.length q] W fun e w' => e = .returned (.tuple #[]) ∧ KD w N d (crashS S pk) all firm i L b w' v ∧ Oth W w' :=
  (crash_some N d S pk hpk a q hc hm W h.cur.disk ha).mono fun _ _ ⟨e1, e2, e3⟩ => ⟨e1, ⟨(h.cur.drop.next e3 e2).1, hL, row52 (Oth.ofD e3) h.row⟩, Oth.ofD e3⟩
theorem keeps_crash2 {w W : World} {N : Lo} {d : Nat} {S : Dk} {all : List Ch} {firm i : Nat} {L L' : List Sg} {b : Nat} {v : Value} (h : KD w N d S all firm i L b W v) (hL : CrX (crashS S []) all firm i L' b) :
    Calls Tryz.prog 31 #[.pointer (some ⟨d, 0, none⟩), .slice none 0 0] W fun e w' => e = .returned (.tuple #[]) ∧ KD w N d (crashS S []) all firm i L' b w' v :=
  (dcur_crash h.cur none 0 (by unfold maxLen; omega)).mono fun e w' ⟨e1, e2, e3⟩ => ⟨e1, e2, hL, row52 e3 h.row⟩
theorem keeps_arm0 {w W : World} {N : Lo} {d : Nat} {S : Dk} {all : List Ch} {firm i : Nat} {L : List Sg} {b : Nat} {v : Value} (h : KD w N d S all firm i L b W v) :
    Calls Tryz.prog 30 #[.pointer (some ⟨d, 0, none⟩), .int .i64 0] W fun e w' => e = .returned (.tuple #[]) ∧ KD w N d { S with armed := true, ahead := 0 } all firm i L b w' v :=
  (arm_some N d S 0 (by decide) W h.cur.disk).mono fun e w' ⟨e1, e2, e3⟩ => ⟨e1, (h.cur.next e3 e2).1, h.cr.of (by rfl), row52 (Oth.ofD e3) h.row⟩
theorem keeps_open {w W : World} {N : Lo} {d : Nat} {S : Dk} {all : List Ch} {firm i : Nat} {L : List Sg} {b : Nat} {v : Value} (h : KD w N d S all firm i L b W v) (hon : S.on = true) (hi : i < 200) (hE : ldE S v1B L = 0) (kv : Fs) (hO : Od (ldS S v1B L) (ldK v1B L) all firm i kv) :
    Calls Tryz.prog 16 #[.pointer (some ⟨d, 0, none⟩), .string v1B] W fun e w' => ∃ c, e = .returned (.tuple #[.pointer (some ⟨c, 0, none⟩), .int .i64 0]) ∧ KO w c d all firm i kv w' v := by
  have h1 := h.cr.long
  have h2 := h.cr.many
  refine (open_some N d S hon v1B aCap L (h.cr.sound.list h.cur.fine.rise) (by omega) h.cr.sound.seg (by omega) W h.cur.disk h.cur.sz h.cur.tab h.cur.lt).mono ?_
  rintro e w' ⟨c, mb, sv, e1, e2, e3, e4⟩
  have hB := e4.below h.cur.sz
  refine ⟨c, ?_, _, mb, _, _, ⟨⟨sv, e2⟩, h.cur.lo, h.cur.tab.on hB, h.cur.bel.trans (by have := h.cur.lo; rw [← this]; exact hB)⟩, hO, row52 (Oth.ofD e4) h.row⟩
  rw [e1, hE]
  rfl
theorem keeps_dark {w W : World} {N : Lo} {d : Nat} {S : Dk} {all : List Ch} {firm i : Nat} {L : List Sg} {b : Nat} {v : Value} (h : KD w N d S all firm i L b W v) (hon : S.on = true) (hi : i < 200) (hE : ldE S v1B L = 23) (hf : (ldS S v1B L).fs = S.fs) :
    Calls Tryz.prog 16 #[.pointer (some ⟨d, 0, none⟩), .string v1B] W fun e w' => e = .returned (.tuple #[.pointer none, .int .i64 23]) ∧ ∃ N', KD w N' d (ldS S v1B L) all firm i L b w' v := by
  have h1 := h.cr.long
  have h2 := h.cr.many
  refine (open_some N d S hon v1B aCap L (h.cr.sound.list h.cur.fine.rise) (by omega) h.cr.sound.seg (by omega) W h.cur.disk h.cur.sz h.cur.tab h.cur.lt).mono ?_
  rintro e w' ⟨c, mb, sv, e1, e2, e3, e4⟩
  have hB := e4.below h.cur.sz
  have hcur : Cur w w' (N.with mb) c d mb (ldS S v1B L) (ldK v1B L) := ⟨⟨sv, e2⟩, h.cur.lo, h.cur.tab.on hB, h.cur.bel.trans (by have := h.cur.lo; rw [← this]; exact hB)⟩
  refine ⟨?_, _, hcur.drop, h.cr.of hf, row52 (Oth.ofD e4) h.row⟩
  rw [e1, hE]
  rfl
theorem KO.below {w W W' : World} {c d : Nat} {all : List Ch} {firm i : Nat} {kv : Fs} {v : Value} (h : KO w c d all firm i kv W v) (hb : Below W.heap.size W W') : KO w c d all firm i kv W' v := by
  obtain ⟨N, mb, S, K, h1, h2, h3⟩ := h
  exact ⟨N, mb, S, K, h1.below hb, h2, row52 (Oth.ofBelow hb) h3⟩
theorem KO.bel {w W : World} {c d : Nat} {all : List Ch} {firm i : Nat} {kv : Fs} {v : Value} (h : KO w c d all firm i kv W v) : Below w.heap.size w W := by
  obtain ⟨N, mb, S, K, h1, h2, h3⟩ := h
  exact h1.bel
theorem keeps_arm1 {w W : World} {c d : Nat} {all : List Ch} {firm i : Nat} {kv : Fs} {v : Value} (h : KO w c d all firm i kv W v) :
    Calls Tryz.prog 30 #[.pointer (some ⟨d, 0, none⟩), .int .i64 (-1)] W fun e w' => e = .returned (.tuple #[]) ∧ KO w c d all firm i kv w' v := by
  obtain ⟨N, mb, S, K, h1, h2, h3⟩ := h
  exact (arm_some N d S (-1) (by decide) W h1.disk).mono fun e w' ⟨e1, e2, e3⟩ => ⟨e1, N, mb, _, K, h1.disked e3 e2, h2.of (by rfl) (by rfl), row52 (Oth.ofD e3) h3⟩
theorem keeps_fold {w W : World} {c d : Nat} {all : List Ch} {firm i : Nat} {kv : Fs} {v : Value} (h : KO w c d all firm i kv W v) :
    Calls Tryz.prog 23 #[.pointer (some ⟨c, 0, none⟩)] W fun e w' => ∃ a n q, e = .returned (.slice a n q) ∧ KO w c d all firm i kv w' v ∧ w'.ownsRow w.heap.size 103 2 (.slice a n q) (kvL kv).length (cellsP (kvL kv)) := by
  obtain ⟨N, mb, S, K, h1, h2, h3⟩ := h
  refine (cur_fold h1).mono fun e w' ⟨u, e1, e2, e3, e4⟩ => ?_
  obtain ⟨a, q, rfl⟩ := row_slice e2
  rw [h2.eq] at e2
  exact ⟨a, _, q, e1, ⟨N, mb, S, K, e3, h2, row52 e4 h3⟩, by rw [h2.eq]; exact row_base e2 h1.bel.size⟩
theorem chg_take {W : World} {v : Value} {l : List Ch} {a : Option Addr} {n q : Nat} (h : ChgAt W v l) (hv : v = .slice a n q) (k : Nat) (hk : k ≤ n) : ChgAt W (.slice a k q) (l.take k) := by
  obtain ⟨a', q', e, hc⟩ := h
  rw [hv] at e
  injection e with e1 e2 e3
  subst e1 e2 e3
  refine ⟨a, q, by rw [List.length_take, Nat.min_eq_left hk], fun hne => ?_⟩
  obtain ⟨b, o, e1, e2, e3⟩ := hc (fun e => hne (by rw [e]; simp))
  exact ⟨b, o, e1, e2, fun i p e => e3 i p (by
    have hi := (List.getElem?_eq_some_iff.1 e).1
    rw [List.getElem?_take_of_lt (by simp at hi; omega)] at e
    exact e)⟩
theorem keeps_rfold {w W : World} {c d : Nat} {all : List Ch} {firm i : Nat} {kv : Fs} {u : Value} {a : Option Addr} {n q : Nat} (h : KO w c d all firm i kv W (.slice a n q)) (hu : W.ownsRow w.heap.size 103 2 u (kvL kv).length (cellsP (kvL kv))) (hi : i < 200) (k : Nat) (hk : k ≤ n) :
    Calls Tryz.prog 33 #[.slice a k q] W fun e w' => ∃ a2 n2 q2, e = .returned (.slice a2 n2 q2) ∧ (KO w c d all firm i kv w' (.slice a n q) ∧ w'.ownsRow w.heap.size 103 2 u (kvL kv).length (cellsP (kvL kv))) ∧ w'.ownsRow w.heap.size 103 2 (.slice a2 n2 q2) (kvL (kvOf (all.take k))).length (cellsP (kvL (kvOf (all.take k)))) := by
  have hb := h.bel
  have h' := h
  obtain ⟨N, mb, S, K, h1, h2, h3⟩ := h
  have hl := h2.len
  refine (refFold_any _ (all.take k) (by rw [List.length_take]; omega) W (chg_take (chg_of_row h3) rfl k hk)).mono fun e w' ⟨x, e1, e2, e3⟩ => ?_
  obtain ⟨a2, q2, rfl⟩ := row_slice e2
  exact ⟨a2, _, q2, e1, ⟨h'.below e3, (Oth.ofBelow e3).row hu (by decide) (by decide) (by decide) (by decide) (by decide)⟩, row_base e2 hb.size⟩
theorem keeps_same {w W : World} {c d : Nat} {all : List Ch} {firm i : Nat} {kv : Fs} {u x v : Value} {k : Nat} (h : KO w c d all firm i kv W v ∧ W.ownsRow w.heap.size 103 2 u (kvL kv).length (cellsP (kvL kv))) (hx : W.ownsRow w.heap.size 103 2 x (kvL (kvOf (all.take k))).length (cellsP (kvL (kvOf (all.take k))))) (hi : i < 200) :
    Calls Tryz.prog 32 #[u, x] W fun e w' => e = .returned (.bool (decide (kvL kv = kvL (kvOf (all.take k))))) ∧ KO w c d all firm i kv w' v ∧ w'.ownsRow w.heap.size 103 2 u (kvL kv).length (cellsP (kvL kv)) := by
  obtain ⟨h1, h2⟩ := h
  have h' := h1
  obtain ⟨N, mb, S, K, k1, k2, k3⟩ := h1
  have hs := k2.small
  have hl := k2.len
  have hk : (kvL (kvOf (all.take k))).length < 9223372036854775807 := by
    have : (kvOf (all.take k)).length ≤ (all.take k).length := ldC_len v1B (all.take k) []
    rw [kvL_len]
    rw [List.length_take] at this
    omega
  exact (same_any u x _ _ (by rw [kvL_len]; omega) hk W (prs_of_row h2) (prs_of_row hx)).mono fun e w' ⟨e1, e2⟩ => ⟨e1, h'.below e2, (Oth.ofBelow e2).row h2 (by decide) (by decide) (by decide) (by decide) (by decide)⟩
theorem rowI_take (l : List Ch) (k : Nat) : rowI (l.take k) = (rowI l).take (k * 3) := by
  induction l generalizing k with
  | nil => simp [rowI]
  | cons p l ih =>
    cases k with
    | zero => simp [rowI]
    | succ k =>
      have := ih k
      simp only [rowI, List.take_succ_cons, List.flatMap_cons] at this ⊢
      rw [this, show (k + 1) * 3 = k * 3 + 1 + 1 + 1 by omega]
      simp
theorem row_take {W : World} {B : Nat} {a : Option Addr} {n q k : Nat} {l : List Ch} (h : W.ownsRow B 52 3 (.slice a n q) l.length (rowI l)) (hk : k ≤ n) : W.ownsRow B 52 3 (.slice a k q) (l.take k).length (rowI (l.take k)) := by
  refine ⟨by rw [rowI_len], ?_⟩
  rcases h.2 with ⟨e, h0⟩ | ⟨g, cap, cur, e, h1, h2, h3, h4, h5, h6⟩
  · injection e with e1 e2 e3
    subst e1 e2 e3
    obtain rfl : k = 0 := by omega
    exact .inl ⟨rfl, by simp⟩
  · injection e with e1 e2 e3
    subst e1 e2 e3
    have hl : (l.take k).length = k := by rw [List.length_take]; omega
    refine .inr ⟨g, q, cur, by rw [hl], h1, h2, by omega, h4, h5, ?_⟩
    rw [hl, rowI_take, ← h6, List.take_take, Nat.min_eq_left (by omega)]
/-- The law takes up what was found. -/
theorem keeps_found {w W : World} {c d : Nat} {all : List Ch} {firm i : Nat} {kv : Fs} {a : Option Addr} {n q k : Nat} (h : KO w c d all firm i kv W (.slice a n q)) (hk : k ≤ n) (hn : n = all.length) (he : kvL kv = kvL (kvOf (all.take k))) : KI w c d (all.take k) (all.take k) k (i + 1) W (.slice a k q) := by
  obtain ⟨N, mb, S, K, h1, h2, h3⟩ := h
  exact ⟨N, mb, S, K, h1, (h2.get k (by omega) he).mono (by omega), row_take h3 hk⟩
theorem keeps_ex {w W : World} {c d : Nat} {all : List Ch} {firm i : Nat} {kv : Fs} {v : Value} (h : KO w c d all firm i kv W v) : ∃ a, firm ≤ a ∧ a ≤ all.length ∧ kvL kv = kvL (kvOf (all.take a)) := by
  obtain ⟨N, mb, S, K, h1, h2, h3⟩ := h
  exact h2.ex
/-- The start. -/
theorem Kp.start {S : Dk} {K : Ck} (hg : Good S K []) (hn : K.nm = v1B) (ho : S.on = true) (hfs : S.fs.length = 0) : Kp S K [] 0 0 := by
  have hs := hg.sound
  rw [hn] at hs
  refine ⟨⟨[], [], [], [], [], 0, hs, ⟨by simp, fun L0 x e => by simp at e, fun L0 x e => by simp at e, fun _ => rfl⟩, rfl, rfl, rfl, rfl, Nat.le_refl _, List.prefix_refl _, Nat.le_refl _, by simp, by simp, fun _ => ⟨ho, hg, rfl, fun _ y hy => by cases hy⟩⟩, hn, ?_, Nat.le_refl _, by omega⟩
  rw [newN_last hg.segs]
  simp
theorem keeps_start {w W : World} {d : Nat} {r : Int} (h : DCur w W (lo0 w) d (newS r)) :
    Calls Tryz.prog 16 #[.pointer (some ⟨d, 0, none⟩), .string v1B] W fun e w' => ∃ c, e = .returned (.tuple #[.pointer (some ⟨c, 0, none⟩), .int .i64 0]) ∧ KI w c d [] [] 0 0 w' (.slice none 0 0) := by
  refine (dcur_open h (empty_calm r) v1B aCap [] (empty_sound r v1B) (by simp) (by simp)).mono fun e w' ⟨c, mb, e1, e2, e3⟩ => ⟨c, e1, _, mb, _, _, e2, ?_, World.ownsRow_nil _ _ _ _⟩
  obtain ⟨q1, q2, q3, q4⟩ := (empty_sound r v1B).opened (empty_calm r) aCap
  exact Kp.start q3 rfl q2.on rfl
/-- The row has grown. -/
theorem keeps_more {w W W' : World} {c d i firm : Nat} {ps all : List Ch} {v v' : Value} {ch : Ch} (h : KI w c d ps all firm i W v) {row : Option Nat} (hg : W.grownBy W' row) (hv : row = v.ownBlock) (hr : W'.ownsRow w.heap.size 52 3 v' (all.length + 1) (rowI all ++ [.string ch.k, .string ch.v, .bool ch.dead])) : KI w c d ps (all ++ [ch]) firm i W' v' := by
  obtain ⟨N, mb, S, K, h⟩ := h
  subst hv
  have hb : Below w.heap.size w W' := below_grown h.cur.bel hg h.cur.bel.size h.row
  have hne : ∀ (j : Nat) o, W.heap[j]? = some o → (∀ cs fr, o ≠ Obj.cells cs 52 fr) → W'.heap[j]? = W.heap[j]? := fun j o hj ho => hg.block j (Array.getElem?_eq_some_iff.1 hj).1 (fun e => by
    rcases h.row.2 with ⟨q, _⟩ | ⟨g, cap, cur, q, _, hh, _⟩
    · rw [q] at e; simp [Value.ownBlock] at e
    · rw [q] at e
      obtain rfl : j = g := by simpa [Value.ownBlock] using e
      rw [hh] at hj
      cases hj
      exact ho _ _ rfl)
  obtain ⟨sv, o⟩ := h.cur.op
  refine ⟨N, mb, S, K, ⟨⟨sv, ?_⟩, h.cur.lo, ?_, hb⟩, h.kp, ?_⟩
  · have hH : Holds W' c (ckV d mb sv K) 28 := by
      have q := o.holds
      unfold Holds at q ⊢
      rw [hne c _ q (fun cs fr e => by simp at e)]; exact q
    have hD : DiskAt W' N d S := by
      obtain ⟨mv, st, A, V, q, hN, hM, hF, hS⟩ := o.disk
      refine ⟨mv, st, A, V, ?_, hN, hM.same (fun j es k hj => hne j _ hj (fun _ _ e => by cases e)), hF.same (fun j cs t fr hj ht => hne j _ hj (fun _ _ e => by simp at e; rcases ht with rfl | rfl <;> simp at e)), hS⟩
      unfold Holds at q ⊢
      rw [hne d _ q (fun cs fr e => by simp at e)]; exact q
    refine ⟨hH, o.le, o.guard2, fun j hj => Nat.lt_of_lt_of_le (o.lt j hj) hg.size, ?_, row_same o.row (fun j cs fr hj => hne j _ hj (fun _ _ e => by simp at e)), hD, o.fine⟩
    obtain ⟨es, cl, q⟩ := o.keys.isMap
    exact o.keys.same (hne mb _ q (fun _ _ e => by cases e))
  · have hB : Below N W W' := by
      refine ⟨hg.os, hg.tape, hg.output, hg.size, fun j hj => ?_⟩
      have hlo := h.cur.lo
      refine hg.block j (Nat.lt_of_lt_of_le hj h.cur.sz) (fun e => ?_)
      have := (h.row.lt j e.symm).1
      have : j < w.heap.size := by rw [← hlo]; exact hj
      omega
    exact h.cur.tab.on hB
  · rw [List.length_append, rowI_append]; exact hr
end Go.Proofs.YtfmmholkeadejaaGreatDoor
