/- CkBeginW, CkWrite, CkWriteW, CkPut, CkDelete, CkNil. -/
import Derived.Deep.QuietTactic
import Derived.BigQuiet
import Derived.Test.YtfmmholkeadejaaGreatDoorZC1
import Derived.Test.YtfmmholkeadejaaGreatDoorZC3
/- A new segment is begun: the walk. -/
namespace Go.Proofs.YtfmmholkeadejaaGreatDoor
open Go.RowKit Go.Maps Go.WideMaps

/-- The error of a beginning, the disk and the cask behind it. -/
def bgF (K : Ck) : ByteArray := fileB K.nm (newN K + 1)
def bgE (S : Dk) (K : Ck) (r : ByteArray) : Int := if csE S K = 0 then layE (csS S K) r else csE S K
def bgS (S : Dk) (K : Ck) (r : ByteArray) : Dk := if csE S K = 0 then layT (csS S K) (bgF K) r else csS S K
def bgK (S : Dk) (K : Ck) (r : ByteArray) : Ck :=
  if csE S K = 0 then (if layE (csS S K) r = 0 then { csK S K with broken := false, segs := K.segs ++ [newN K + 1], left := 4096 } else { csK S K with broken := heedB (layE (csS S K) r) }) else csK S K
/-- The row of the segments lies where it lay, or in a new block. -/
def Near (w : World) (sv sv' : Value) : Prop := ∀ g, sv'.ownBlock = some g → sv.ownBlock = some g ∨ w.heap.size ≤ g
theorem Near.refl (w : World) (sv : Value) : Near w sv sv := fun _ h => .inl h
theorem Near.on {w W : World} {sv sv' : Value} (h : Near W sv sv') (hs : w.heap.size ≤ W.heap.size) : Near w sv sv' := fun g hg => (h g hg).imp id (fun q => Nat.le_trans hs q)
theorem near_at {w w4 : World} {sv : Value} {g n4 m c : Nat} (h : sv.ownBlock = some g ∨ g = n4 + 1) (hn : w4.heap.size = n4) (hs : w.heap.size ≤ w4.heap.size) : Hid (Near w sv (.slice (some ⟨g, 0, none⟩) m c)) := fun g' hg => by
  obtain rfl : g = g' := by simpa [Value.ownBlock] using hg
  rcases h with h | h
  · exact .inl h
  · exact .inr (by omega)
set_option maxHeartbeats 3200000 in
set_option maxRecDepth 100000 in
theorem begin_near (N : Lo) (c d mb : Nat) (sv : Value) (S : Dk) (K : Ck) (r : ByteArray) (hr : r.size ≤ 140737488355328) (w : World) (h : CaskOpen w N c d mb sv S K) (hN : N ≤ w.heap.size) (hT : Tab N w) (hb : K.broken = false) (hlen : (csS S K).fs.length < 256) (hnew : newN K < 999999) (hm : K.segs.length < 16777216) :
    Calls Tryz.prog 112 #[.pointer (some ⟨c, 0, none⟩), .string r] w fun e w' => e = .returned (.int .i64 (bgE S K r)) ∧ (∃ sv', CaskOpen w' N c d mb sv' (bgS S K r) (bgK S K r) ∧ Near w sv sv') ∧ CUpd N (Own c mb sv) w w' := by
  have hown := h.own
  have hcs : Hid (Calls Tryz.prog 20 #[.pointer (some ⟨c, 0, none⟩)] w fun e w' => e = .returned (.int .i64 (csE S K)) ∧ CaskOpen w' N c d mb sv (csS S K) (csK S K) ∧ CUpd N (Own c mb sv) w w') := csync_any N c d mb sv S K w h hN hT hb
  obtain ⟨q1, q2, q3, q4, q5⟩ := csK_same S K
  by_cases hE : csE S K = 0
  · rw [bgE, bgS, bgK, if_pos hE, if_pos hE, if_pos hE]
    rw [hE] at hcs
    have hnw : Hid (∀ W, CaskOpen W N c d mb sv (csS S K) (csK S K) → Calls Tryz.prog 60 #[.pointer (some ⟨c, 0, none⟩)] W fun e w' => e = .returned (.int .i64 (newN K : Int)) ∧ Below W.heap.size W w') := fun W hW => by
      have := newest_some N c d mb sv (csK S K) W hW.holds hW.row hW.fine.many
      rw [newN_cs] at this
      exact this
    have hla : Hid (∀ W, CaskOpen W N c d mb sv (csS S K) (csK S K) → CUpd N (Own c mb sv) w W → Calls Tryz.prog 260 #[.agg #[.pointer (some ⟨d, 0, none⟩), .string (csK S K).nm], .int .i64 ((newN K : Int) + 1), .string r] W fun e w' => e = .returned (.int .i64 (layE (csS S K) r)) ∧ CaskOpen w' N c d mb sv (layT (csS S K) (bgF K) r) (csK S K) ∧ CUpd N (Own c mb sv) w w') := fun W hW hu => by
      have hs := hu.size
      have hTW : Tab N W := hT.on (hu.below hN hown)
      have := lays_any N d (csS S K) (csK S K).nm hW.fine.nm (newN K + 1) (by omega) (by omega) r hr W hW.disk (by omega) hTW hlen hW.lt
      rw [Int.natCast_add] at this
      exact this.mono fun _ _ ⟨e1, e2, e3⟩ => ⟨e1, hW.dupd e3 (by rw [bgF, ← q1]; exact e2), hu.trans (.ofD e3)⟩
    have hhe : Hid (∀ W S' E, CaskOpen W N c d mb sv S' (csK S K) → CUpd N (Own c mb sv) w W → Calls Tryz.prog 59 #[.pointer (some ⟨c, 0, none⟩), .int .i64 E] W fun e w' => e = .returned (.int .i64 E) ∧ CaskOpen w' N c d mb sv S' { csK S K with broken := heedB E } ∧ CUpd N (Own c mb sv) w w') := fun W S' E hC hu => by
      refine (heed_some c d mb sv (csK S K) E W hC.holds).mono fun e w' ⟨e1, e2⟩ => ⟨e1, ?_⟩
      subst e2
      exact ⟨hC.put 6 _ rfl rfl rfl ⟨hC.fine.rise, hC.fine.nm, hC.fine.segs, hC.fine.many, hC.fine.keys, hC.fine.size, hC.fine.recs, hC.fine.left, hC.fine.busy, hC.fine.live⟩, hu.set c 6 _ (.inl rfl)⟩
    have hcell : Hid (∀ W S' K', CaskOpen W N c d mb sv S' K' → W.cell? ⟨c, 0, none⟩ = some (.iface 106 (.agg #[.pointer (some ⟨d, 0, none⟩), .string K'.nm])) ∧ W.cell? ⟨c, 3, none⟩ = some sv) := fun W S' K' hW => ⟨hW.holds.at 0 _ rfl, hW.holds.at 3 _ rfl⟩
    have hbel : Hid (∀ W W', CaskOpen W N c d mb sv (csS S K) (csK S K) → CUpd N (Own c mb sv) w W → Below W.heap.size W W' → CaskOpen W' N c d mb sv (csS S K) (csK S K) ∧ CUpd N (Own c mb sv) w W') := fun W W' hW hu hb => ⟨hW.dupd (.ofBelow hb) (hW.disk.below hb), hu.trans (.ofBelow hb)⟩
    have hmt := @meth_lay
    have g1 : IntKind.i64.wrap ((newN K : Int) + 1) = (newN K : Int) + 1 := by simp [IntKind.wrap, IntKind.bits, IntKind.signed]; omega
    have g2 : wrap64 ((newN K : Int) + 1) = (newN K : Int) + 1 := by unfold wrap64; omega
    by_cases hE2 : layE (csS S K) r = 0
    · rw [if_pos hE2]
      rw [hE2] at hla ⊢
      have hnn : 1 ≤ newN K + 1 ∧ newN K + 1 ≤ 999999 := ⟨Nat.le_add_left 1 _, hnew⟩
      have hgr : Hid (∀ (W W' : World) (sv' : Value), CaskOpen W N c d mb sv (layT (csS S K) (bgF K) r) { csK S K with broken := heedB 0 } → CUpd N (Own c mb sv) w W → (W.alloc (.cells #[.int .i64 ((newN K : Int) + 1)] 3)).grownBy W' sv.ownBlock → W'.ownsRow N 3 1 sv' (K.segs.length + 1) (segV K.segs ++ [.int .i64 ((newN K : Int) + 1)]) →
          CaskOpen ((W'.setCell ⟨c, 3, none⟩ sv').setCell ⟨c, 4, none⟩ (.int .i64 4096)) N c d mb sv' (layT (csS S K) (bgF K) r) { csK S K with broken := false, segs := K.segs ++ [newN K + 1], left := 4096 } ∧ CUpd N (Own c mb sv) w ((W'.setCell ⟨c, 3, none⟩ sv').setCell ⟨c, 4, none⟩ (.int .i64 4096)) ∧ W'.cell? ⟨c, 3, none⟩ = some sv ∧ W'.frozen? ⟨c, 3, none⟩ = false ∧ (∃ x, W'.cell? ⟨c, 4, none⟩ = some (.int .i64 x)) ∧ W'.frozen? ⟨c, 4, none⟩ = false) := fun W W' sv' hW hu hg hr' => by
        have hW2 := hW.alloc (.cells #[.int .i64 ((newN K : Int) + 1)] 3)
        obtain ⟨r1, r2, r3, r4, r5⟩ := hW2.grow (sv' := sv') hg (newN K + 1) hnn (by show (csK S K).segs.length < _; rw [q2]; exact hm) (by
          show World.ownsRow _ _ _ _ _ ((csK S K).segs.length + 1) (segV (csK S K).segs ++ _)
          rw [q2, Int.natCast_add]; exact hr')
        refine ⟨?_, ?_, r2, r3, ⟨_, r4⟩, r5⟩
        · have e : ({ ({ csK S K with broken := heedB 0 } : Ck) with segs := ({ csK S K with broken := heedB 0 } : Ck).segs ++ [newN K + 1], left := 4096 } : Ck) = { csK S K with broken := false, segs := K.segs ++ [newN K + 1], left := 4096 } := by
            show ({ csK S K with broken := heedB 0, segs := (csK S K).segs ++ [newN K + 1], left := 4096 } : Ck) = _
            rw [q2]; rfl
          rw [← e]; exact r1
        · have u2 : CUpd N (Own c mb sv) w W' := (hu.trans (.ofD ((DUpd.refl N W).alloc _))).trans ⟨hg.os, hg.tape, hg.output, hg.size, fun i hi hl _ => hg.block i hi (fun e => hl (.inr (.inr e.symm)))⟩
          exact (u2.set c 3 _ (.inl rfl)).set c 4 _ (.inl rfl)
      have hrw : Hid (∀ W S' K', CaskOpen W N c d mb sv S' K' → K'.segs = K.segs → W.ownsRow N 3 1 sv K.segs.length (segV K.segs) ∧ N ≤ W.heap.size) := fun W S' K' hW e => ⟨by have := hW.row; rw [e] at this; exact this, by have := hW.holds.lt; have := hW.le; omega⟩
      have Q2 : Hid ((csK S K).segs = K.segs) := q2
      obtain ⟨i3, f3, hz3, hs3, hb3⟩ := cinf3
      have F3 : Hid (Tryz.prog.info? 3 = some i3) := f3
      have FZ : Hid (i3.zero = some (.int .i64 0)) := hz3
      have FS : Hid (i3.size = 1) := hs3
      have FB : Hid (i3.bytes = 8) := hb3
      clear h hT hb hlen hown hE hE2 q1 q2 q3 q4 q5 f3 hz3 hs3 hb3 hnn
      generalize segV K.segs = xs at *
      generalize K.segs.length = ln at *
      generalize layT (csS S K) (bgF K) r = S2 at *
      generalize csS S K = S1 at *
      go_enter Tryz.func112, Tryz.ntmps112
      go_wp2_with (first
        | (go_at_call 20; refine hcs.out.mono ?_; rintro e w1 ⟨rfl, o1, u1⟩)
        | (go_at_call 60; refine (hnw.out _ o1).mono ?_; rintro e w2 ⟨rfl, b2⟩; obtain ⟨o2, u2⟩ := hbel.out _ _ o1 u1 b2; have c2 := (hcell.out _ _ _ o2).1)
        | (go_at_call 260; refine (hla.out _ o2 u2).mono ?_; rintro e w3 ⟨rfl, o3, u3⟩)
        | (go_at_call 59; refine (hhe.out _ _ _ o3 u3).mono ?_; rintro e w4 ⟨rfl, o4, u4⟩; have c4 := (hcell.out _ _ _ o4).2; obtain ⟨row4, z4⟩ := hrw.out _ _ _ o4 Q2.out; obtain ⟨n4, hn4⟩ : ∃ n4, w4.heap.size = n4 := ⟨_, rfl⟩; have hnews : Hid (∀ (i : Nat) (u : Value), [Value.int .i64 ((newN K : Int) + 1)][i]? = some u → (w4.alloc (.cells #[.int .i64 ((newN K : Int) + 1)] 3)).cell? ((⟨n4, 0, none⟩ : Addr).add i) = some u) := (by have q := World.news_of_block (heap_alloc_new w4 (.cells #[.int .i64 ((newN K : Int) + 1)] 3)); rw [hn4] at q; exact q))
        | (at_builtin; refine wpList_append_lies _ rfl (.tmp 32) (.tmp 34) 26 rfl N 3 i3 (.int .i64 0) 1 8 Tryz.underlying26 F3.out FZ.out FS.out FB.out rfl (by omega) sv ln xs rfl (row4.alloc _) ⟨n4, 0, none⟩ 1 1 [.int .i64 ((newN K : Int) + 1)] rfl rfl hnews.out (by intro u hu; simp at hu; subst hu; rfl) (by omega) (by unfold maxLen; omega) (by omega) (by simp; omega) (n4 + 1) (by simp [hn4]) ?_; intro g5 cap5 w5 hown5 hgrow5 hat5 hlt5; obtain ⟨k1, k2, k3, k4, ⟨x5, k5⟩, k6⟩ := hgr.out _ _ _ o4 u4 hgrow5 hown5; have K1 : Hid _ := k1; have K2 : Hid _ := k2; have AT5 : Hid (Near w sv (.slice (some ⟨g5, 0, none⟩) (ln + 1) cap5)) := near_at hat5 hn4 u4.size; clear k1 k2 hat5))
      go_ret
      exact ⟨rfl, ⟨_, K1.out, AT5.out⟩, K2.out⟩
    · rw [if_neg hE2]
      generalize layE (csS S K) r = E2 at *
      have e0 : (E2 != 0) = true := by simpa using hE2
      clear h hT hb hlen hown hE hE2 q1 q2 q3 q4 q5
      go_enter Tryz.func112, Tryz.ntmps112
      go_wp2_with (first
        | (go_at_call 20; refine hcs.out.mono ?_; rintro e w1 ⟨rfl, o1, u1⟩)
        | (go_at_call 60; refine (hnw.out _ o1).mono ?_; rintro e w2 ⟨rfl, b2⟩; obtain ⟨o2, u2⟩ := hbel.out _ _ o1 u1 b2; have c2 := (hcell.out _ _ _ o2).1)
        | (go_at_call 260; refine (hla.out _ o2 u2).mono ?_; rintro e w3 ⟨rfl, o3, u3⟩)
        | (go_at_call 59; refine (hhe.out _ _ _ o3 u3).mono ?_; rintro e w4 ⟨rfl, o4, u4⟩))
      go_ret
      exact ⟨rfl, ⟨sv, o4, Near.refl w sv⟩, u4⟩
  · rw [bgE, bgS, bgK, if_neg hE, if_neg hE, if_neg hE]
    have e0 : (csE S K != 0) = true := by simpa using hE
    generalize csE S K = E at *
    go_enter Tryz.func112, Tryz.ntmps112
    go_wp2_with (go_at_call 20; refine hcs.out.mono ?_; rintro e w1 ⟨rfl, o1, u1⟩)
    go_ret
    exact ⟨rfl, ⟨sv, o1, Near.refl w sv⟩, u1⟩
end Go.Proofs.YtfmmholkeadejaaGreatDoor

/- A change is written. -/
namespace Go.Proofs.YtfmmholkeadejaaGreatDoor
open Go.RowKit Go.Maps Go.WideMaps

/-- The record of a change. -/
def chR (ch : Ch) : ByteArray := Pk.strL (chB ch)
theorem chR_size (ch : Ch) (h : ch.Ok) : (chR ch).size ≤ 60300 := by
  have hz := cfE_zero h
  have hb := bodyL_le ch.k ch.v ch.dead hz.2.1 hz.2.2
  have h1 := textL_le (Pk.strL (bodyL ch.k ch.v ch.dead)) (by rw [Pk.strL_size]; omega)
  rw [Pk.strL_size] at h1
  show (chB ch).length ≤ _
  unfold chB recL Pk.frameL
  rw [List.length_append, Pk.four_length]
  omega
/-- The cask once the record stands: what is left, that it is loose, and what counts. -/
def laidK (K : Ck) (ch : Ch) : Ck := takeK { K with left := K.left - ((chR ch).size : Int), loose := true } ch
/-- The end of a writing that has gone well. -/
theorem write_end (N : Lo) (c d mb : Nat) (sv' : Value) (S : Dk) (K : Ck) (ch : Ch) (hc : ch.Ok) (W : World) (h : CaskOpen W N c d mb sv' S K) (hl : 0 < K.left ∧ K.left ≤ 4096) (hne : K.segs ≠ []) (h1 : K.kv.length < 16777216) (h2 : K.recs < 4611686018427387903) :
    W.cell? ⟨c, 4, none⟩ = some (.int .i64 K.left) ∧ W.frozen? ⟨c, 4, none⟩ = false ∧ W.cell? ⟨c, 5, none⟩ = some (.bool K.loose) ∧ W.frozen? ⟨c, 5, none⟩ = false ∧
    Calls Tryz.prog 110 #[.pointer (some ⟨c, 0, none⟩), .agg #[.string ch.k, .string ch.v, .bool ch.dead]] ((W.setCell ⟨c, 4, none⟩ (.int .i64 (K.left - ((chR ch).size : Int)))).setCell ⟨c, 5, none⟩ (.bool true)) fun e w' => e = .returned (.tuple #[]) ∧ CaskOpen w' N c d mb sv' S (laidK K ch) ∧ CUpd N (Own2 c mb) W w' := by
  have hz := chR_size ch hc
  have f := h.fine
  have o1 := h.put 4 (.int .i64 (K.left - ((chR ch).size : Int))) (K' := { K with left := K.left - ((chR ch).size : Int) }) rfl rfl rfl ⟨f.rise, f.nm, f.segs, f.many, f.keys, f.size, f.recs, ⟨by show _ < K.left - _; omega, by show K.left - _ < _; omega⟩, f.busy, fun _ => hne⟩
  have o2 := o1.put 5 (.bool true) (K' := { K with left := K.left - ((chR ch).size : Int), loose := true }) rfl rfl rfl ⟨f.rise, f.nm, f.segs, f.many, f.keys, f.size, f.recs, o1.fine.left, fun _ => hne, fun _ => hne⟩
  refine ⟨h.holds.at 4 _ rfl, h.holds.frozen 4, h.holds.at 5 _ rfl, h.holds.frozen 5, ?_⟩
  refine (take_some N c d mb sv' S { K with left := K.left - ((chR ch).size : Int), loose := true } ch hc _ o2 h1 h2).mono fun e w' ⟨e1, e2, e3⟩ => ⟨e1, e2, ?_⟩
  exact (((CUpd.refl N _ W).set c 4 _ (.inl rfl)).set c 5 _ (.inl rfl)).trans e3
end Go.Proofs.YtfmmholkeadejaaGreatDoor

/- A change is written: the walk. -/
namespace Go.Proofs.YtfmmholkeadejaaGreatDoor
open Go.RowKit Go.Maps Go.WideMaps

/-- The step of a writing that lays the record: its error, the disk, the cask. -/
def stE (S : Dk) (K : Ck) (r : ByteArray) : Int := if 0 < K.left then layE S r else bgE S K r
def stS (S : Dk) (K : Ck) (r : ByteArray) : Dk := if 0 < K.left then layT S (fileB K.nm (newN K)) r else bgS S K r
def stK (S : Dk) (K : Ck) (r : ByteArray) : Ck := if 0 < K.left then { K with broken := heedB (layE S r) } else bgK S K r
/-- What a writing asks. -/
structure Room4 (S : Dk) (K : Ck) : Prop where
  left : K.left ≤ 4096
  files : S.fs.length < 256
  filesS : (csS S K).fs.length < 256
  new : newN K < 999999
  segs : K.segs.length < 16777216
  kv : K.kv.length < 16777216
  recs : K.recs < 4611686018427387903
theorem stK_ok {S : Dk} {K : Ck} {r : ByteArray} (hf : K.Fine) (hR : Room4 S K) (h : stE S K r = 0) : (0 < (stK S K r).left ∧ (stK S K r).left ≤ 4096) ∧ (stK S K r).segs ≠ [] ∧ (stK S K r).kv = K.kv ∧ (stK S K r).recs = K.recs := by
  obtain ⟨q1, q2, q3, q4, q5⟩ := csK_same S K
  unfold stK
  by_cases hl : 0 < K.left
  · rw [if_pos hl]
    exact ⟨⟨hl, hR.left⟩, hf.live hl, rfl, rfl⟩
  · rw [if_neg hl]
    rw [stE, if_neg hl] at h
    by_cases hE : csE S K = 0
    · rw [bgE, if_pos hE] at h
      rw [bgK, if_pos hE, if_pos h]
      exact ⟨⟨by show (0 : Int) < 4096; decide, by show (4096 : Int) ≤ 4096; decide⟩, by show K.segs ++ [newN K + 1] ≠ []; simp, q3, q4⟩
    · rw [bgE, if_neg hE] at h
      exact absurd h hE
set_option maxHeartbeats 3200000 in
set_option maxRecDepth 100000 in
theorem write_bad (c : Nat) (ch : Ch) (hE : cfE ch.k ch.v ≠ 0) (w : World) :
    Calls Tryz.prog 58 #[.pointer (some ⟨c, 0, none⟩), .agg #[.string ch.k, .string ch.v, .bool ch.dead]] w fun e w' => e = .returned (.int .i64 (cfE ch.k ch.v)) ∧ Below w.heap.size w w' := by
  obtain ⟨k, v, dead⟩ := ch
  show Calls Tryz.prog 58 #[.pointer (some ⟨c, 0, none⟩), .agg #[.string k, .string v, .bool dead]] w fun e w' => e = .returned (.int .i64 (cfE k v)) ∧ _
  have hE : cfE k v ≠ 0 := hE
  obtain ⟨m, hm⟩ : ∃ m, w.heap.size = m := ⟨_, rfl⟩
  have hz0 : (w.alloc (.cells #[.string k, .string v, .bool dead] 52)).heap.size = m + 1 := by simp [hm]
  have hre : Hid (Calls Tryz.prog 34 #[.string k, .string v, .bool dead] (w.alloc (.cells #[.string k, .string v, .bool dead] 52)) fun e w' => e = .returned (.tuple #[.string (recV k v dead), .int .i64 (cfE k v)]) ∧ Below (m + 1) (w.alloc (.cells #[.string k, .string v, .bool dead] 52)) w') := by
    have := record_any k v dead (w.alloc (.cells #[.string k, .string v, .bool dead] 52))
    rw [hz0] at this
    exact this
  have hb0 : Below m w (w.alloc (.cells #[.string k, .string v, .bool dead] 52)) := (Below.refl _ _).alloc (by omega) _
  have e0 : (cfE k v != 0) = true := by simpa using hE
  rw [hm]
  generalize cfE k v = E at *
  generalize recV k v dead = R at *
  go_enter Tryz.func58, Tryz.ntmps58
  go_wp2_with (go_at_call 34; refine hre.out.mono ?_; rintro e w1 ⟨rfl, b1⟩)
  go_ret
  exact ⟨rfl, hb0.trans (b1.mono (by omega))⟩
set_option maxHeartbeats 3200000 in
set_option maxRecDepth 100000 in
theorem write_near (N : Lo) (c d mb : Nat) (sv : Value) (S : Dk) (K : Ck) (ch : Ch) (hc : ch.Ok) (w : World) (h : CaskOpen w N c d mb sv S K) (hN : N ≤ w.heap.size) (hT : Tab N w) (hb : K.broken = false) (hR : Room4 S K) :
    Calls Tryz.prog 58 #[.pointer (some ⟨c, 0, none⟩), .agg #[.string ch.k, .string ch.v, .bool ch.dead]] w fun e w' => e = .returned (.int .i64 (stE S K (chR ch))) ∧ (∃ sv', CaskOpen w' N c d mb sv' (stS S K (chR ch)) (if stE S K (chR ch) = 0 then laidK (stK S K (chR ch)) ch else stK S K (chR ch)) ∧ Near w sv sv') ∧ CUpd N (Own c mb sv) w w' := by
  have hz := chR_size ch hc
  have hok : cfE ch.k ch.v = 0 := hc
  have hrv : recV ch.k ch.v ch.dead = chR ch := by rw [recV, if_pos hok]; rfl
  obtain ⟨m, hm⟩ : ∃ m, w.heap.size = m := ⟨_, rfl⟩
  have hA := h.alloc (.cells #[.string ch.k, .string ch.v, .bool ch.dead] 52)
  have hz0 : (w.alloc (.cells #[.string ch.k, .string ch.v, .bool ch.dead] 52)).heap.size = m + 1 := by simp [hm]
  have hbx : Hid (Holds (w.alloc (.cells #[.string ch.k, .string ch.v, .bool ch.dead] 52)) m [.string ch.k, .string ch.v, .bool ch.dead] 52) := hm ▸ holds_new w [.string ch.k, .string ch.v, .bool ch.dead] 52
  have hre : Hid (Calls Tryz.prog 34 #[.string ch.k, .string ch.v, .bool ch.dead] (w.alloc (.cells #[.string ch.k, .string ch.v, .bool ch.dead] 52)) fun e w' => e = .returned (.tuple #[.string (chR ch), .int .i64 0]) ∧ CaskOpen w' N c d mb sv S K ∧ CUpd N (Own c mb sv) w w' ∧ Holds w' m [.string ch.k, .string ch.v, .bool ch.dead] 52) := by
    have := record_any ch.k ch.v ch.dead (w.alloc (.cells #[.string ch.k, .string ch.v, .bool ch.dead] 52))
    rw [hrv, hok] at this
    exact this.mono fun _ _ ⟨e1, e2⟩ => ⟨e1, hA.dupd (.ofBelow e2) (hA.disk.below e2), (CUpd.ofD ((DUpd.refl N w).alloc _)).trans (.ofBelow e2), hbx.out.below e2 (by rw [hz0]; omega)⟩
  have hstep : Hid (∀ W, CaskOpen W N c d mb sv S K → CUpd N (Own c mb sv) w W → Holds W m [.string ch.k, .string ch.v, .bool ch.dead] 52 →
      W.cell? ⟨c, 4, none⟩ = some (.int .i64 K.left) ∧ Calls Tryz.prog (if 0 < K.left then 111 else 112) #[.pointer (some ⟨c, 0, none⟩), .string (chR ch)] W fun e w' => e = .returned (.int .i64 (stE S K (chR ch))) ∧ (∃ sv', CaskOpen w' N c d mb sv' (stS S K (chR ch)) (stK S K (chR ch)) ∧ Near w sv sv') ∧ CUpd N (Own c mb sv) w w' ∧ Holds w' m [.string ch.k, .string ch.v, .bool ch.dead] 52) := fun W hW hu hbW => by
    have hs := hu.size
    have hTW : Tab N W := hT.on (hu.below hN h.own)
    have hmc : ¬ Own c mb sv m := fun e => by
      rcases e with e | e | e
      · have := h.holds.lt; omega
      · have := h.lt mb h.guard; omega
      · have := (h.row.lt m e).2; omega
    refine ⟨hW.holds.at 4 _ rfl, ?_⟩
    by_cases hl : 0 < K.left
    · rw [if_pos hl, stE, stS, stK, if_pos hl, if_pos hl, if_pos hl]
      exact (extend_some N c d mb sv S K (chR ch) (by omega) W hW (by omega) hTW (h.fine.live hl) hR.files).mono fun _ _ ⟨e1, e2, e3⟩ => ⟨e1, ⟨sv, e2, Near.refl w sv⟩, hu.trans e3, by
        unfold Holds at hbW ⊢
        rw [e3.block m (Array.getElem?_eq_some_iff.1 hbW).1 hmc (.inr ⟨_, _, _, hbW, by decide, by decide, by decide⟩)]; exact hbW⟩
    · rw [if_neg hl, stE, stS, stK, if_neg hl, if_neg hl, if_neg hl]
      exact (begin_near N c d mb sv S K (chR ch) (by omega) W hW (by omega) hTW hb hR.filesS hR.new hR.segs).mono fun _ _ ⟨e1, ⟨sv', e2, e4⟩, e3⟩ => ⟨e1, ⟨sv', e2, e4.on hs⟩, hu.trans e3, by
        unfold Holds at hbW ⊢
        rw [e3.block m (Array.getElem?_eq_some_iff.1 hbW).1 hmc (.inr ⟨_, _, _, hbW, by decide, by decide, by decide⟩)]; exact hbW⟩
  have hmN : c ≠ m := by have := h.holds.lt; omega
  by_cases hE : stE S K (chR ch) = 0
  · rw [hE, if_pos rfl]
    rw [hE] at hstep
    obtain ⟨y1, y2, y3, y4⟩ := stK_ok h.fine hR hE
    have hend : Hid (∀ (W : World) (sv' : Value), CaskOpen W N c d mb sv' (stS S K (chR ch)) (stK S K (chR ch)) → W.cell? ⟨c, 4, none⟩ = some (.int .i64 (stK S K (chR ch)).left) ∧ W.frozen? ⟨c, 4, none⟩ = false ∧ W.cell? ⟨c, 5, none⟩ = some (.bool (stK S K (chR ch)).loose) ∧ W.frozen? ⟨c, 5, none⟩ = false ∧
      Calls Tryz.prog 110 #[.pointer (some ⟨c, 0, none⟩), .agg #[.string ch.k, .string ch.v, .bool ch.dead]] ((W.setCell ⟨c, 4, none⟩ (.int .i64 ((stK S K (chR ch)).left - ((chR ch).size : Int)))).setCell ⟨c, 5, none⟩ (.bool true)) fun e w' => e = .returned (.tuple #[]) ∧ CaskOpen w' N c d mb sv' (stS S K (chR ch)) (laidK (stK S K (chR ch)) ch) ∧ CUpd N (Own2 c mb) W w') := fun W sv' hW => write_end N c d mb sv' _ _ ch hc W hW y1 y2 (by rw [y3]; exact hR.kv) (by rw [y4]; exact hR.recs)
    have g1 : IntKind.i64.wrap ((stK S K (chR ch)).left - ((chR ch).size : Int)) = (stK S K (chR ch)).left - ((chR ch).size : Int) := by simp [IntKind.wrap, IntKind.bits, IntKind.signed]; omega
    have g2 : wrap64 ((stK S K (chR ch)).left - ((chR ch).size : Int)) = (stK S K (chR ch)).left - ((chR ch).size : Int) := by unfold wrap64; omega
    clear y1 y2 y3 y4 h hT hc hR hok hrv hA hb hE
    generalize laidK (stK S K (chR ch)) ch = K2 at *
    generalize stK S K (chR ch) = K1 at *
    generalize stS S K (chR ch) = S1 at *
    generalize chR ch = R at *
    by_cases hl : 0 < K.left
    · rw [if_pos hl] at hstep
      go_enter Tryz.func58, Tryz.ntmps58
      go_wp2_with (first
        | (go_at_call 110; refine t5.mono ?_; rintro e w5 ⟨rfl, o5, u5⟩)
        | (go_at_call 111; refine k3.mono ?_; rintro e w3 ⟨rfl, ⟨sv3, o3, n3⟩, u3, b3⟩; have N3 : Hid (Near w sv sv3) := n3; clear n3; obtain ⟨r1, r2, r3, r4, t5⟩ := hend.out _ _ o3; have B5 := (b3.setOther c 4 (.int .i64 (K1.left - (R.size : Int))) hmN.symm).setOther c 5 (.bool true) hmN.symm; have z0 := B5.at 0 _ rfl; have z1 := B5.at 1 _ rfl; have z2 := B5.at 2 _ rfl; have v0 := b3.at 0 _ rfl; have v1 := b3.at 1 _ rfl; have v2 := b3.at 2 _ rfl)
        | (go_at_call 34; refine hre.out.mono ?_; rintro e w1 ⟨rfl, o1, u1, b1⟩; obtain ⟨c4, k3⟩ := hstep.out _ o1 u1 b1))
      go_ret
      exact ⟨rfl, ⟨sv3, o5, N3.out⟩, u3.trans (u5.mono (own2_own c mb sv))⟩
    · rw [if_neg hl] at hstep
      go_enter Tryz.func58, Tryz.ntmps58
      go_wp2_with (first
        | (go_at_call 110; refine t5.mono ?_; rintro e w5 ⟨rfl, o5, u5⟩)
        | (go_at_call 112; refine k3.mono ?_; rintro e w3 ⟨rfl, ⟨sv3, o3, n3⟩, u3, b3⟩; have N3 : Hid (Near w sv sv3) := n3; clear n3; obtain ⟨r1, r2, r3, r4, t5⟩ := hend.out _ _ o3; have B5 := (b3.setOther c 4 (.int .i64 (K1.left - (R.size : Int))) hmN.symm).setOther c 5 (.bool true) hmN.symm; have z0 := B5.at 0 _ rfl; have z1 := B5.at 1 _ rfl; have z2 := B5.at 2 _ rfl; have v0 := b3.at 0 _ rfl; have v1 := b3.at 1 _ rfl; have v2 := b3.at 2 _ rfl)
        | (go_at_call 34; refine hre.out.mono ?_; rintro e w1 ⟨rfl, o1, u1, b1⟩; obtain ⟨c4, k3⟩ := hstep.out _ o1 u1 b1))
      go_ret
      exact ⟨rfl, ⟨sv3, o5, N3.out⟩, u3.trans (u5.mono (own2_own c mb sv))⟩
  · rw [if_neg hE]
    have e0 : (stE S K (chR ch) != 0) = true := by simpa using hE
    clear h hT hc hR hok hrv hA hb
    generalize stK S K (chR ch) = K1 at *
    generalize stS S K (chR ch) = S1 at *
    generalize stE S K (chR ch) = E at *
    generalize chR ch = R at *
    by_cases hl : 0 < K.left
    · rw [if_pos hl] at hstep
      go_enter Tryz.func58, Tryz.ntmps58
      go_wp2_with (first
        | (go_at_call 111; refine k3.mono ?_; rintro e w3 ⟨rfl, ⟨sv3, o3, n3⟩, u3, b3⟩; have N3 : Hid (Near w sv sv3) := n3; clear n3)
        | (go_at_call 34; refine hre.out.mono ?_; rintro e w1 ⟨rfl, o1, u1, b1⟩; obtain ⟨c4, k3⟩ := hstep.out _ o1 u1 b1))
      go_ret
      exact ⟨rfl, ⟨sv3, o3, N3.out⟩, u3⟩
    · rw [if_neg hl] at hstep
      go_enter Tryz.func58, Tryz.ntmps58
      go_wp2_with (first
        | (go_at_call 112; refine k3.mono ?_; rintro e w3 ⟨rfl, ⟨sv3, o3, n3⟩, u3, b3⟩; have N3 : Hid (Near w sv sv3) := n3; clear n3)
        | (go_at_call 34; refine hre.out.mono ?_; rintro e w1 ⟨rfl, o1, u1, b1⟩; obtain ⟨c4, k3⟩ := hstep.out _ o1 u1 b1))
      go_ret
      exact ⟨rfl, ⟨sv3, o3, N3.out⟩, u3⟩
theorem write_some (N : Lo) (c d mb : Nat) (sv : Value) (S : Dk) (K : Ck) (ch : Ch) (hc : ch.Ok) (w : World) (h : CaskOpen w N c d mb sv S K) (hN : N ≤ w.heap.size) (hT : Tab N w) (hb : K.broken = false) (hR : Room4 S K) :
    Calls Tryz.prog 58 #[.pointer (some ⟨c, 0, none⟩), .agg #[.string ch.k, .string ch.v, .bool ch.dead]] w fun e w' => e = .returned (.int .i64 (stE S K (chR ch))) ∧ (∃ sv', CaskOpen w' N c d mb sv' (stS S K (chR ch)) (if stE S K (chR ch) = 0 then laidK (stK S K (chR ch)) ch else stK S K (chR ch))) ∧ CUpd N (Own c mb sv) w w' :=
  (write_near N c d mb sv S K ch hc w h hN hT hb hR).mono fun _ _ ⟨e1, ⟨sv', e2, _⟩, e3⟩ => ⟨e1, ⟨sv', e2⟩, e3⟩
end Go.Proofs.YtfmmholkeadejaaGreatDoor

/- A key is given a value. -/
namespace Go.Proofs.YtfmmholkeadejaaGreatDoor
open Go.RowKit

theorem put_nil (k v : ByteArray) (w : World) : Calls Tryz.prog 18 #[.pointer none, .string k, .string v] w fun e w' => e = .returned (.int .i64 1) ∧ w' = w := by
  have hr := ready_nil w
  go_enter Tryz.func18, Tryz.ntmps18
  go_wp2_with (go_at_call 56; refine hr.mono ?_; rintro e w1 ⟨rfl, rfl⟩)
  go_ret
  exact ⟨rfl, rfl⟩
theorem put_broken (c d mb : Nat) (sv : Value) (K : Ck) (k v : ByteArray) (w : World) (h : Holds w c (ckV d mb sv K) 28) (hb : K.broken = true) : Calls Tryz.prog 18 #[.pointer (some ⟨c, 0, none⟩), .string k, .string v] w fun e w' => e = .returned (.int .i64 24) ∧ w' = w := by
  have hr : Hid (Calls Tryz.prog 56 #[.pointer (some ⟨c, 0, none⟩)] w fun e w' => e = .returned (.int .i64 24) ∧ w' = w) := by
    have := ready_some c d mb sv K w h
    rw [readyE, if_pos hb] at this
    exact this
  go_enter Tryz.func18, Tryz.ntmps18
  go_wp2_with (go_at_call 56; refine hr.out.mono ?_; rintro e w1 ⟨rfl, rfl⟩)
  go_ret
  exact ⟨rfl, rfl⟩
theorem put_bad (c d mb : Nat) (sv : Value) (K : Ck) (k v : ByteArray) (w : World) (h : Holds w c (ckV d mb sv K) 28) (hb : K.broken = false) (hE : cfE k v ≠ 0) : Calls Tryz.prog 18 #[.pointer (some ⟨c, 0, none⟩), .string k, .string v] w fun e w' => e = .returned (.int .i64 (cfE k v)) ∧ Below w.heap.size w w' := by
  have hr := ready_ok c d mb sv K w h hb
  have hw : Hid (Calls Tryz.prog 58 #[.pointer (some ⟨c, 0, none⟩), .agg #[.string k, .string v, .bool false]] w fun e w' => e = .returned (.int .i64 (cfE k v)) ∧ Below w.heap.size w w') := write_bad c ⟨k, v, false⟩ hE w
  generalize cfE k v = E at *
  clear h
  go_enter Tryz.func18, Tryz.ntmps18
  go_wp2_with (first
    | (go_at_call 58; refine hw.out.mono ?_; rintro e w2 ⟨rfl, b2⟩)
    | (go_at_call 56; refine hr.out.mono ?_; rintro e w1 ⟨rfl, e1⟩; rw [e1]; clear e1))
  go_ret
  exact ⟨rfl, b2⟩
theorem put_near (N : Lo) (c d mb : Nat) (sv : Value) (S : Dk) (K : Ck) (k v : ByteArray) (hE : cfE k v = 0) (w : World) (h : CaskOpen w N c d mb sv S K) (hN : N ≤ w.heap.size) (hT : Tab N w) (hb : K.broken = false) (hR : Room4 S K) :
    Calls Tryz.prog 18 #[.pointer (some ⟨c, 0, none⟩), .string k, .string v] w fun e w' => e = .returned (.int .i64 (stE S K (chR ⟨k, v, false⟩))) ∧ (∃ sv', CaskOpen w' N c d mb sv' (stS S K (chR ⟨k, v, false⟩)) (if stE S K (chR ⟨k, v, false⟩) = 0 then laidK (stK S K (chR ⟨k, v, false⟩)) ⟨k, v, false⟩ else stK S K (chR ⟨k, v, false⟩)) ∧ Near w sv sv') ∧ CUpd N (Own c mb sv) w w' := by
  have hr := ready_ok c d mb sv K w h.holds hb
  have hw : Hid (Calls Tryz.prog 58 #[.pointer (some ⟨c, 0, none⟩), .agg #[.string k, .string v, .bool false]] w fun e w' => e = .returned (.int .i64 (stE S K (chR ⟨k, v, false⟩))) ∧ (∃ sv', CaskOpen w' N c d mb sv' (stS S K (chR ⟨k, v, false⟩)) (if stE S K (chR ⟨k, v, false⟩) = 0 then laidK (stK S K (chR ⟨k, v, false⟩)) ⟨k, v, false⟩ else stK S K (chR ⟨k, v, false⟩)) ∧ Near w sv sv') ∧ CUpd N (Own c mb sv) w w') := write_near N c d mb sv S K ⟨k, v, false⟩ hE w h hN hT hb hR
  generalize (if stE S K (chR ⟨k, v, false⟩) = 0 then laidK (stK S K (chR ⟨k, v, false⟩)) ⟨k, v, false⟩ else stK S K (chR ⟨k, v, false⟩)) = K2 at *
  generalize stE S K (chR ⟨k, v, false⟩) = E at *
  generalize stS S K (chR ⟨k, v, false⟩) = S2 at *
  clear h hT hR
  go_enter Tryz.func18, Tryz.ntmps18
  go_wp2_with (first
    | (go_at_call 58; refine hw.out.mono ?_; rintro e w2 ⟨rfl, o2, u2⟩)
    | (go_at_call 56; refine hr.out.mono ?_; rintro e w1 ⟨rfl, e1⟩; rw [e1]; clear e1))
  go_ret
  exact ⟨rfl, o2, u2⟩

theorem put_some (N : Lo) (c d mb : Nat) (sv : Value) (S : Dk) (K : Ck) (k v : ByteArray) (hE : cfE k v = 0) (w : World) (h : CaskOpen w N c d mb sv S K) (hN : N ≤ w.heap.size) (hT : Tab N w) (hb : K.broken = false) (hR : Room4 S K) :
    Calls Tryz.prog 18 #[.pointer (some ⟨c, 0, none⟩), .string k, .string v] w fun e w' => e = .returned (.int .i64 (stE S K (chR ⟨k, v, false⟩))) ∧ (∃ sv', CaskOpen w' N c d mb sv' (stS S K (chR ⟨k, v, false⟩)) (if stE S K (chR ⟨k, v, false⟩) = 0 then laidK (stK S K (chR ⟨k, v, false⟩)) ⟨k, v, false⟩ else stK S K (chR ⟨k, v, false⟩))) ∧ CUpd N (Own c mb sv) w w' :=
  (put_near N c d mb sv S K k v hE w h hN hT hb hR).mono fun _ _ ⟨e1, ⟨sv', e2, _⟩, e3⟩ => ⟨e1, ⟨sv', e2⟩, e3⟩
end Go.Proofs.YtfmmholkeadejaaGreatDoor

/- A key is taken away. -/
namespace Go.Proofs.YtfmmholkeadejaaGreatDoor
open Go.RowKit

theorem delete_nilc (a : Option Addr) (n q : Nat) (w : World) : Calls Tryz.prog 19 #[.pointer none, .slice a n q] w fun e w' => e = .returned (.int .i64 1) ∧ w' = w := by
  have hr := ready_nil w
  go_enter Tryz.func19, Tryz.ntmps19
  go_wp2_with (go_at_call 56; refine hr.mono ?_; rintro e w1 ⟨rfl, rfl⟩)
  go_ret
  exact ⟨rfl, rfl⟩
set_option maxHeartbeats 1600000 in
set_option maxRecDepth 100000 in
theorem delete_gone (N : Lo) (c d mb : Nat) (sv : Value) (S : Dk) (K : Ck) (s : ByteArray) (hs : s.size ≤ maxLen) (g q : Nat) (w : World) (h : CaskOpen w N c d mb sv S K) (hb : K.broken = false) (hg : get K.kv s.data.toList = none) (hk : w.cell? ⟨g, 0, none⟩ = some (.string s)) :
    Calls Tryz.prog 19 #[.pointer (some ⟨c, 0, none⟩), .slice (some ⟨g, 0, none⟩) 1 q] w fun e w' => e = .returned (.int .i64 21) ∧ Below w.heap.size w w' := by
  have hr := ready_ok c d mb sv K w h.holds hb
  have c1 := h.holds.at 1 _ rfl
  have hl := h.keys.look s hs
  rw [hg] at hl
  simp only [pairV, Option.isSome_none] at hl
  clear h
  go_enter Tryz.func19, Tryz.ntmps19
  go_wp2_with (go_at_call 56; refine hr.out.mono ?_; rintro e w1 ⟨rfl, e1⟩; rw [e1]; clear e1)
  go_loopw [18] (fun c wr => c = .int .i64 0 ∧ wr = w) (fun c _ => 1 - (intOf c).toNat)
  case atStart => exact ⟨rfl, rfl⟩
  case round =>
    obtain ⟨rfl, rfl⟩ := hrel
    go_wp2
    go_ret
    exact ⟨rfl, (Below.refl _ _).alloc (Nat.le_refl _) _⟩
set_option maxHeartbeats 1600000 in
set_option maxRecDepth 100000 in
theorem delete_some (N : Lo) (c d mb : Nat) (sv : Value) (S : Dk) (K : Ck) (s : ByteArray) (hE : cfE s ⟨#[]⟩ = 0) (g q : Nat) (f : Fl) (w : World) (h : CaskOpen w N c d mb sv S K) (hN : N ≤ w.heap.size) (hT : Tab N w) (hb : K.broken = false) (hR : Room4 S K) (hg : get K.kv s.data.toList = some f) (hk : w.cell? ⟨g, 0, none⟩ = some (.string s)) :
    Calls Tryz.prog 19 #[.pointer (some ⟨c, 0, none⟩), .slice (some ⟨g, 0, none⟩) 1 q] w fun e w' => e = .returned (.int .i64 (stE S K (chR ⟨s, ⟨#[]⟩, true⟩))) ∧ (∃ sv', CaskOpen w' N c d mb sv' (stS S K (chR ⟨s, ⟨#[]⟩, true⟩)) (if stE S K (chR ⟨s, ⟨#[]⟩, true⟩) = 0 then laidK (stK S K (chR ⟨s, ⟨#[]⟩, true⟩)) ⟨s, ⟨#[]⟩, true⟩ else stK S K (chR ⟨s, ⟨#[]⟩, true⟩))) ∧ CUpd N (Own c mb sv) w w' := by
  have hr := ready_ok c d mb sv K w h.holds hb
  have c1 := h.holds.at 1 _ rfl
  have hl := h.keys.look s (by have := cfE_zero hE; unfold maxLen; omega)
  rw [hg] at hl
  simp only [pairV, Option.isSome_some] at hl
  have hA := h.alloc (.cells #[.string s, .string (strL f.bytes)] 103)
  have hb0 : Below w.heap.size w (w.alloc (.cells #[.string s, .string (strL f.bytes)] 103)) := (Below.refl _ _).alloc (Nat.le_refl _) _
  have hw : Hid (Calls Tryz.prog 58 #[.pointer (some ⟨c, 0, none⟩), .agg #[.string s, .string ⟨#[]⟩, .bool true]] (w.alloc (.cells #[.string s, .string (strL f.bytes)] 103)) fun e w' => e = .returned (.int .i64 (stE S K (chR ⟨s, ⟨#[]⟩, true⟩))) ∧ (∃ sv', CaskOpen w' N c d mb sv' (stS S K (chR ⟨s, ⟨#[]⟩, true⟩)) (if stE S K (chR ⟨s, ⟨#[]⟩, true⟩) = 0 then laidK (stK S K (chR ⟨s, ⟨#[]⟩, true⟩)) ⟨s, ⟨#[]⟩, true⟩ else stK S K (chR ⟨s, ⟨#[]⟩, true⟩))) ∧ CUpd N (Own c mb sv) w w') :=
    (write_some N c d mb sv S K ⟨s, ⟨#[]⟩, true⟩ hE _ hA (by simp; omega) (hT.on (hb0.mono hN)) hb hR).mono fun _ _ ⟨e1, e2, e3⟩ => ⟨e1, e2, (CUpd.ofBelow hb0).trans e3⟩
  generalize (if stE S K (chR ⟨s, ⟨#[]⟩, true⟩) = 0 then laidK (stK S K (chR ⟨s, ⟨#[]⟩, true⟩)) ⟨s, ⟨#[]⟩, true⟩ else stK S K (chR ⟨s, ⟨#[]⟩, true⟩)) = K2 at *
  generalize stE S K (chR ⟨s, ⟨#[]⟩, true⟩) = E at *
  generalize stS S K (chR ⟨s, ⟨#[]⟩, true⟩) = S2 at *
  generalize strL f.bytes = fb at *
  clear h hT hR hA hb0 hg
  go_enter Tryz.func19, Tryz.ntmps19
  go_wp2_with (go_at_call 56; refine hr.out.mono ?_; rintro e w1 ⟨rfl, e1⟩; rw [e1]; clear e1)
  go_loopw [18] (fun c' wr => (c' = .int .i64 0 ∧ wr = w) ∨ (c' = .int .i64 1 ∧ E = 0 ∧ (∃ sv', CaskOpen wr N c d mb sv' S2 K2) ∧ CUpd N (Own c mb sv) w wr)) (fun c _ => 1 - (intOf c).toNat)
  case atStart => exact .inl ⟨rfl, rfl⟩
  case round =>
    rcases hrel with ⟨rfl, rfl⟩ | ⟨rfl, rfl, o, u⟩
    · by_cases h0 : E = 0
      · subst h0
        go_wp2_with (go_at_call 58; refine hw.out.mono ?_; rintro e w2 ⟨rfl, o2, u2⟩)
        exact ⟨.inr ⟨rfl, by first | rfl | trivial, o2, u2⟩, by decide⟩
      · have e0 : (E != 0) = true := by simpa using h0
        go_wp2_with (go_at_call 58; refine hw.out.mono ?_; rintro e w2 ⟨rfl, o2, u2⟩)
        go_ret
        exact ⟨rfl, o2, u2⟩
    · go_wp2
      go_ret
      exact ⟨rfl, o, u⟩
end Go.Proofs.YtfmmholkeadejaaGreatDoor

/- What no cask, and a zero one, answer; Open of no disk. -/
namespace Go.Proofs.YtfmmholkeadejaaGreatDoor
open Go.RowKit

/-- A zero cask. -/
abbrev zeroC : List Value := [.nilIface, .map none, .int .i64 0, .slice none 0 0, .int .i64 0, .bool false, .bool false]
theorem none_zero (z : Nat) (w : World) (h : Holds w z zeroC 28) : Calls Tryz.prog 66 #[.pointer (some ⟨z, 0, none⟩)] w fun e w' => e = .returned (.bool true) ∧ w' = w := by
  have c0 := h.at 0 _ rfl
  go_enter Tryz.func66, Tryz.ntmps66
  go_wp2
  go_ret
  exact ⟨rfl, rfl⟩
theorem ready_zero (z : Nat) (w : World) (h : Holds w z zeroC 28) : Calls Tryz.prog 56 #[.pointer (some ⟨z, 0, none⟩)] w fun e w' => e = .returned (.int .i64 1) ∧ w' = w := by
  have hn := none_zero z w h
  go_enter Tryz.func56, Tryz.ntmps56
  go_wp2_with (go_at_call 66; refine hn.mono ?_; rintro e w1 ⟨rfl, rfl⟩)
  go_ret
  exact ⟨rfl, rfl⟩
theorem put_zero (z : Nat) (k v : ByteArray) (w : World) (h : Holds w z zeroC 28) : Calls Tryz.prog 18 #[.pointer (some ⟨z, 0, none⟩), .string k, .string v] w fun e w' => e = .returned (.int .i64 1) ∧ w' = w := by
  have hr := ready_zero z w h
  go_enter Tryz.func18, Tryz.ntmps18
  go_wp2_with (go_at_call 56; refine hr.mono ?_; rintro e w1 ⟨rfl, rfl⟩)
  go_ret
  exact ⟨rfl, rfl⟩
theorem sync_nilc (w : World) : Calls Tryz.prog 20 #[.pointer none] w fun e w' => e = .returned (.int .i64 1) ∧ w' = w := by
  have hr := ready_nil w
  go_enter Tryz.func20, Tryz.ntmps20
  go_wp2_with (go_at_call 56; refine hr.mono ?_; rintro e w1 ⟨rfl, rfl⟩)
  go_ret
  exact ⟨rfl, rfl⟩
theorem sync_zero (z : Nat) (w : World) (h : Holds w z zeroC 28) : Calls Tryz.prog 20 #[.pointer (some ⟨z, 0, none⟩)] w fun e w' => e = .returned (.int .i64 1) ∧ w' = w := by
  have hr := ready_zero z w h
  go_enter Tryz.func20, Tryz.ntmps20
  go_wp2_with (go_at_call 56; refine hr.mono ?_; rintro e w1 ⟨rfl, rfl⟩)
  go_ret
  exact ⟨rfl, rfl⟩
theorem reopen_nil (w : World) : Calls Tryz.prog 21 #[.pointer none] w fun e w' => e = .returned (.int .i64 1) ∧ w' = w := by
  have hr := ready_nil w
  go_enter Tryz.func21, Tryz.ntmps21
  go_wp2_with (go_at_call 56; refine hr.mono ?_; rintro e w1 ⟨rfl, rfl⟩)
  go_ret
  exact ⟨rfl, rfl⟩
theorem fold_nil (w : World) : Calls Tryz.prog 23 #[.pointer none] w fun e w' => e = .returned (.slice none 0 0) ∧ w' = w := by
  go_enter Tryz.func23, Tryz.ntmps23
  go_wp2
  go_ret
  exact ⟨rfl, rfl⟩
theorem segments_nil (w : World) : Calls Tryz.prog 24 #[.pointer none] w fun e w' => e = .returned (.slice none 0 0) ∧ w' = w := by
  go_enter Tryz.func24, Tryz.ntmps24
  go_wp2
  go_ret
  exact ⟨rfl, rfl⟩
theorem dead_nil (w : World) : Calls Tryz.prog 25 #[.pointer none] w fun e w' => e = .returned (.int .i64 0) ∧ w' = w := by
  go_enter Tryz.func25, Tryz.ntmps25
  go_wp2
  go_ret
  exact ⟨rfl, rfl⟩
theorem name_nil (w : World) : Calls Tryz.prog 26 #[.pointer none] w fun e w' => e = .returned (.string ⟨#[]⟩) ∧ w' = w := by
  have hn := none_nil w
  go_enter Tryz.func26, Tryz.ntmps26
  go_wp2_with (go_at_call 66; refine hn.mono ?_; rintro e w1 ⟨rfl, rfl⟩)
  go_ret
  exact ⟨rfl, rfl⟩
theorem disk_nil (w : World) : Calls Tryz.prog 27 #[.pointer none] w fun e w' => e = .returned (.pointer none) ∧ w' = w := by
  have hn := none_nil w
  go_enter Tryz.func27, Tryz.ntmps27
  go_wp2_with (go_at_call 66; refine hn.mono ?_; rintro e w1 ⟨rfl, rfl⟩)
  go_ret
  exact ⟨rfl, rfl⟩
theorem broken_nil (w : World) : Calls Tryz.prog 28 #[.pointer none] w fun e w' => e = .returned (.bool false) ∧ w' = w := by
  go_enter Tryz.func28, Tryz.ntmps28
  go_wp2
  go_ret
  exact ⟨rfl, rfl⟩
theorem len_zero (z : Nat) (w : World) (h : Holds w z zeroC 28) : Calls Tryz.prog 22 #[.pointer (some ⟨z, 0, none⟩)] w fun e w' => e = .returned (.int .i64 0) ∧ w' = w := by
  have c1 := h.at 1 _ rfl
  have hl := fun (W : World) ty => Maps.len_nil (P := Tryz.prog) (w := W) cund25 ty
  go_enter Tryz.func22, Tryz.ntmps22
  go_wp2
  go_ret
  exact ⟨rfl, rfl⟩
theorem opens_nil (s : ByteArray) (w : World) : Calls Tryz.prog 16 #[.pointer none, .string s] w fun e w' => e = .returned (.tuple #[.pointer none, .int .i64 1]) ∧ w' = w := by
  go_enter Tryz.func16, Tryz.ntmps16
  go_wp2
  go_ret2
  exact ⟨rfl, rfl⟩
end Go.Proofs.YtfmmholkeadejaaGreatDoor
