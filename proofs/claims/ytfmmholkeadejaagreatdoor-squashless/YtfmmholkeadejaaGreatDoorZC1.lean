/- CkMem, CkSync, CkExt, CkTake, CkTakeW, CkBegin, CkApp, CkGet. -/
import Derived.Deep.AppendLies
import Derived.Deep.Upon
import Derived.Deep.AppendSrc
import Derived.Maps.AppendAt
import Derived.OwnWalk
import Derived.Test.YtfmmholkeadejaaGreatDoorZCkDisk
import Derived.Test.YtfmmholkeadejaaGreatDoorZD1
/- A cask in memory, and what only looks at it. -/
namespace Go.Proofs.YtfmmholkeadejaaGreatDoor
open Go.RowKit Go.Maps Go.WideMaps

/-- A cask: its name, its keys with their values (as files are kept, the firm part unused), and what it counts. -/
structure Ck where
  nm : ByteArray
  kv : Fs
  recs : Int
  segs : List Nat
  left : Int
  loose : Bool
  broken : Bool
def shV (d : Nat) (nm : ByteArray) : Value := .iface 106 (.agg #[.pointer (some ⟨d, 0, none⟩), .string nm])
def ckV (d mb : Nat) (sv : Value) (K : Ck) : List Value := [shV d K.nm, .map (some mb), .int .i64 K.recs, sv, .int .i64 K.left, .bool K.loose, .bool K.broken]
/-- A pair in the map. -/
def pairElem : Value → Option (DataW Unit × List MemPlace)
  | .agg cs => match cs.toList with
    | [.string k, .string v] => some (.agg [.lit (.string k.data.toList), .lit (.string v.data.toList)], [])
    | _ => none
  | _ => none
def pk (k : List UInt8) : Option Fl → DataW Unit
  | some f => .agg [.lit (.string k), .lit (.string f.bytes)]
  | none => .nil
def KeysAt (w : World) (mb : Nat) (kv : Fs) : Prop :=
  ∃ n D, w.ownsMap Tryz.prog 9 pairElem mb n D ∧ (∀ k, D.atKey (.string k) .nil = pk k (get kv k)) ∧ (∀ k, has D (.string k) = (get kv k).isSome)
def segV (l : List Nat) : List Value := l.map fun (n : Nat) => Value.int .i64 (n : Int)
structure Ck.Fine (K : Ck) : Prop where
  rise : Rising K.kv
  nm : capOk K.nm = true
  segs : ∀ n ∈ K.segs, 1 ≤ n ∧ n ≤ 999999
  many : K.segs.length ≤ 16777216
  keys : ∀ p ∈ K.kv, p.1.length ≤ 255 ∧ p.2.bytes.length ≤ 60000
  size : K.kv.length ≤ 16777216
  recs : 0 ≤ K.recs ∧ K.recs < 4611686018427387904
  left : -4611686018427387904 < K.left ∧ K.left < 4611686018427387904
  busy : K.loose = true → K.segs ≠ []
  live : 0 < K.left → K.segs ≠ []
/-- A cask on its disk. -/
structure CaskOpen (w : World) (N : Lo) (c d mb : Nat) (sv : Value) (S : Dk) (K : Ck) : Prop where
  holds : Holds w c (ckV d mb sv K) 28
  le : N ≤ c
  guard2 : N.G mb ∧ N ≤ mb
  lt : ∀ i, N.G i → i < w.heap.size
  keys : KeysAt w mb K.kv
  row : w.ownsRow N 3 1 sv K.segs.length (segV K.segs)
  disk : DiskAt w N d S
  fine : K.Fine
theorem CaskOpen.guard {w : World} {N : Lo} {c d mb : Nat} {sv : Value} {S : Dk} {K : Ck} (h : CaskOpen w N c d mb sv S K) : N.G mb := h.guard2.1
theorem KeysAt.same {w w' : World} {mb : Nat} {kv : Fs} (h : KeysAt w mb kv) (hs : w'.heap[mb]? = w.heap[mb]?) : KeysAt w' mb kv := by
  obtain ⟨n, D, ⟨es, cl, hb, r⟩, h1, h2⟩ := h
  exact ⟨n, D, ⟨es, cl, hs.trans hb, r⟩, h1, h2⟩
theorem KeysAt.isMap {w : World} {mb : Nat} {kv : Fs} (h : KeysAt w mb kv) : ∃ es c, w.heap[mb]? = some (Obj.map es c) := by
  obtain ⟨n, D, ⟨es, cl, hb, r⟩, h1, h2⟩ := h
  exact ⟨es, cl, hb⟩
theorem row_same {w w' : World} {base : Nat} {e : TypeId} {size : Nat} {v : Value} {n : Nat} {xs : List Value} (h : w.ownsRow base e size v n xs) (hs : ∀ (i : Nat) cs fr, w.heap[i]? = some (Obj.cells cs e fr) → w'.heap[i]? = w.heap[i]?) : w'.ownsRow base e size v n xs := by
  refine ⟨h.1, ?_⟩
  rcases h.2 with h | ⟨g, cap, cur, e1, hb, hg, r⟩
  · exact .inl h
  · exact .inr ⟨g, cap, cur, e1, hb, (hs g _ _ hg).trans hg, r⟩
/-- What the disk's calls leave of a cask. -/
theorem CaskOpen.dupd {w w' : World} {N : Lo} {c d mb : Nat} {sv : Value} {S S' : Dk} {K : Ck} (h : CaskOpen w N c d mb sv S K) (hu : DUpd N w w') (hd : DiskAt w' N d S') : CaskOpen w' N c d mb sv S' K := by
  refine ⟨h.holds.dupd hu (by decide) (by decide) (by decide), h.le, h.guard2, fun i hi => Nat.lt_of_lt_of_le (h.lt i hi) hu.size, ?_, ?_, hd, h.fine⟩
  · exact h.keys.same (hu.block mb (h.lt mb h.guard) (.inl (.inr ⟨h.guard, h.keys.isMap⟩)))
  · exact row_same h.row (fun i cs fr hi => hu.block i (Array.getElem?_eq_some_iff.1 hi).1 (.inr ⟨cs, 3, fr, hi, by decide, by decide, by decide⟩))

/-- A cask's own blocks. -/
def Own (c mb : Nat) (sv : Value) (i : Nat) : Prop := i = c ∨ i = mb ∨ sv.ownBlock = some i
/-- What a call on a cask leaves as it was. -/
structure CUpd (N : Lo) (L : Nat → Prop) (w w' : World) : Prop where
  os : w'.os = w.os
  tape : w'.tape = w.tape
  output : w'.output = w.output
  size : w.heap.size ≤ w'.heap.size
  block : ∀ i, i < w.heap.size → ¬ L i → (i < N ∨ (N.G i ∧ ∃ es c, w.heap[i]? = some (Obj.map es c))) ∨ Foreign w i → w'.heap[i]? = w.heap[i]?
theorem CUpd.refl (N : Lo) (L : Nat → Prop) (w : World) : CUpd N L w w := ⟨rfl, rfl, rfl, Nat.le_refl _, fun _ _ _ _ => rfl⟩
theorem CUpd.ofD {N : Lo} {L : Nat → Prop} {w w' : World} (h : DUpd N w w') : CUpd N L w w' := ⟨h.os, h.tape, h.output, h.size, fun i hi _ hc => h.block i hi hc⟩
theorem CUpd.ofBelow {N : Lo} {L : Nat → Prop} {w w' : World} (h : Below w.heap.size w w') : CUpd N L w w' := .ofD (.ofBelow h)
theorem CUpd.trans {N : Lo} {L : Nat → Prop} {x y z : World} (h : CUpd N L x y) (k : CUpd N L y z) : CUpd N L x z :=
  ⟨k.os.trans h.os, k.tape.trans h.tape, k.output.trans h.output, Nat.le_trans h.size k.size, fun i hi hl hc =>
    have e := h.block i hi hl hc
    (k.block i (Nat.lt_of_lt_of_le hi h.size) hl (hc.imp (fun g => g.imp id fun ⟨g, es, c, q⟩ => ⟨g, es, c, e.trans q⟩) fun f => f.of e)).trans e⟩
theorem CUpd.set {N : Lo} {L : Nat → Prop} {x y : World} (h : CUpd N L x y) (c i : Nat) (v : Value) (hL : L c) : CUpd N L x (y.setCell ⟨c, i, none⟩ v) :=
  ⟨h.os, h.tape, h.output, by simpa using h.size, fun j hj hl hc => (heap_setCell_other y ⟨c, i, none⟩ j v (fun (e : j = c) => hl (e ▸ hL))).trans (h.block j hj hl hc)⟩
theorem CUpd.drew {N : Lo} {L : Nat → Prop} {x y : World} (h : CUpd N L x y) : CUpd N L x y.drew := ⟨h.os, h.tape, h.output, h.size, h.block⟩
theorem CUpd.below {N : Lo} {L : Nat → Prop} {x y : World} (h : CUpd N L x y) (hN : N ≤ x.heap.size) (hL : ∀ i, L i → N ≤ i) : Below N x y :=
  ⟨h.os, h.tape, h.output, h.size, fun k hk => h.block k (by omega) (fun e => by have := hL k e; omega) (.inl (.inl hk))⟩
theorem CaskOpen.own {w : World} {N : Lo} {c d mb : Nat} {sv : Value} {S : Dk} {K : Ck} (h : CaskOpen w N c d mb sv S K) : ∀ i, Own c mb sv i → N ≤ i := fun i hi => by
  rcases hi with rfl | rfl | hi
  · exact h.le
  · exact h.guard2.2
  · exact (h.row.lt i hi).1
/-- A cell of the cask's own is written. -/
theorem DiskAt.setOther {w : World} {N : Lo} {d : Nat} {S : Dk} (h : DiskAt w N d S) (c i : Nat) (v : Value) (cs : List Value) (t : TypeId) (hc : Holds w c cs t) (h1 : t ≠ 122) (h2 : t ≠ 128) (h3 : t ≠ 5) : DiskAt (w.setCell ⟨c, i, none⟩ v) N d S := by
  obtain ⟨mv, st, A, V, hH, hN, hM, hF, hS⟩ := h
  have hne : ∀ (j : Nat), (∀ cs' fr, w.heap[j]? ≠ some (Obj.cells cs' t fr)) → (w.setCell ⟨c, i, none⟩ v).heap[j]? = w.heap[j]? := fun j hj => heap_setCell_other w ⟨c, i, none⟩ j v (fun (e : j = c) => by
    subst e
    exact hj _ _ hc)
  refine ⟨mv, st, A, V, ?_, hN, hM.same (fun j es k hj => hne j (fun _ _ e => by rw [hj] at e; cases e)), hF.same (fun j ds u fr hj hu => hne j (fun _ _ e => by
    rw [hj] at e
    simp at e
    rcases hu with rfl | rfl
    · exact h2 e.2.1.symm
    · exact h3 e.2.1.symm)), hS⟩
  unfold Holds at hH ⊢
  rw [hne d (fun _ _ e => by rw [hH] at e; simp at e; exact h1 e.2.1.symm)]
  exact hH
theorem none_nil (w : World) : Calls Tryz.prog 66 #[.pointer none] w fun e w' => e = .returned (.bool true) ∧ w' = w := by
  go_enter Tryz.func66, Tryz.ntmps66
  go_wp2
  go_ret
  exact ⟨rfl, rfl⟩
theorem none_some (c d mb : Nat) (sv : Value) (K : Ck) (w : World) (h : Holds w c (ckV d mb sv K) 28) : Calls Tryz.prog 66 #[.pointer (some ⟨c, 0, none⟩)] w fun e w' => e = .returned (.bool false) ∧ w' = w := by
  have c0 := h.at 0 _ rfl
  unfold shV at c0
  go_enter Tryz.func66, Tryz.ntmps66
  go_wp2
  go_ret
  exact ⟨rfl, rfl⟩
theorem ready_nil (w : World) : Calls Tryz.prog 56 #[.pointer none] w fun e w' => e = .returned (.int .i64 1) ∧ w' = w := by
  have hn := none_nil w
  go_enter Tryz.func56, Tryz.ntmps56
  go_wp2_with (go_at_call 66; refine hn.mono ?_; rintro e w1 ⟨rfl, rfl⟩)
  go_ret
  exact ⟨rfl, rfl⟩
def readyE (K : Ck) : Int := if K.broken = true then 24 else 0
theorem ready_some (c d mb : Nat) (sv : Value) (K : Ck) (w : World) (h : Holds w c (ckV d mb sv K) 28) : Calls Tryz.prog 56 #[.pointer (some ⟨c, 0, none⟩)] w fun e w' => e = .returned (.int .i64 (readyE K)) ∧ w' = w := by
  have hn := none_some c d mb sv K w h
  have c6 := h.at 6 _ rfl
  obtain ⟨b, hb⟩ : ∃ b, K.broken = b := ⟨_, rfl⟩
  rw [readyE, hb]
  rw [hb] at c6
  cases b
  all_goals
    go_enter Tryz.func56, Tryz.ntmps56
    go_wp2_with (go_at_call 66; refine hn.mono ?_; rintro e w1 ⟨rfl, rfl⟩)
    go_ret
    exact ⟨rfl, rfl⟩
/-- What heed makes of an error. -/
def heedB (E : Int) : Bool := decide (E ≠ 0) && decide (E ≠ 22)
theorem heed_some (c d mb : Nat) (sv : Value) (K : Ck) (E : Int) (w : World) (h : Holds w c (ckV d mb sv K) 28) : Calls Tryz.prog 59 #[.pointer (some ⟨c, 0, none⟩), .int .i64 E] w fun e w' => e = .returned (.int .i64 E) ∧ w' = w.setCell ⟨c, 6, none⟩ (.bool (heedB E)) := by
  have c6 := h.at 6 _ rfl
  have f6 := h.frozen 6
  by_cases h0 : E = 0
  · subst h0
    go_enter Tryz.func59, Tryz.ntmps59
    go_wp2
    go_ret
    exact ⟨rfl, rfl⟩
  · by_cases h1 : E = 22
    · subst h1
      go_enter Tryz.func59, Tryz.ntmps59
      go_wp2
      go_ret
      exact ⟨rfl, rfl⟩
    · have e0 : (E != 0) = true := by simpa using h0
      have e1 : (E != 22) = true := by simpa using h1
      have hB : heedB E = true := by simp [heedB, h0, h1]
      rw [hB]
      go_enter Tryz.func59, Tryz.ntmps59
      go_wp2
      go_ret
      exact ⟨rfl, rfl⟩
/-- The newest segment, 0 where there is none. -/
def newN (K : Ck) : Nat := K.segs.getLastD 0
theorem segV_len (l : List Nat) : (segV l).length = l.length := by simp [segV]
theorem row_slice {w : World} {base : Nat} {e : TypeId} {size : Nat} {v : Value} {n : Nat} {xs : List Value} (h : w.ownsRow base e size v n xs) : ∃ a c, v = .slice a n c := by
  rcases h.2 with ⟨rfl, h0⟩ | ⟨g, cap, cur, rfl, _⟩
  · exact ⟨_, _, by rw [h0]⟩
  · exact ⟨_, _, rfl⟩
set_option maxRecDepth 100000 in
theorem newest_some (B c d mb : Nat) (sv : Value) (K : Ck) (w : World) (h : Holds w c (ckV d mb sv K) 28) (hr : w.ownsRow B 3 1 sv K.segs.length (segV K.segs)) (hm : K.segs.length ≤ 16777216) : Calls Tryz.prog 60 #[.pointer (some ⟨c, 0, none⟩)] w fun e w' => e = .returned (.int .i64 (newN K : Int)) ∧ Below w.heap.size w w' := by
  have c3 := h.at 3 _ rfl
  obtain ⟨n, hn⟩ : ∃ n, K.segs.length = n := ⟨_, rfl⟩
  rw [hn] at hr
  rcases Nat.eq_zero_or_pos n with h0 | hpos
  · subst h0
    obtain ⟨a, cp, rfl⟩ := row_slice hr
    have e : newN K = 0 := by rw [newN, List.eq_nil_of_length_eq_zero hn]; rfl
    rw [e]
    go_enter Tryz.func60, Tryz.ntmps60
    go_wp2
    go_ret
    exact ⟨rfl, Below.refl _ _⟩
  · obtain ⟨g, cap, rfl⟩ : ∃ g cap, sv = .slice (some ⟨g, 0, none⟩) n cap := by
      rcases hr.2 with ⟨_, h0⟩ | ⟨g, cap, cur, rfl, _⟩
      · omega
      · exact ⟨g, cap, rfl⟩
    obtain ⟨k, rfl⟩ : ∃ k, n = k + 1 := ⟨n - 1, by omega⟩
    have hc := hr.cellAt k (by omega)
    obtain ⟨x, hx⟩ : ∃ x, K.segs[k]? = some x := ⟨_, List.getElem?_eq_getElem (by omega)⟩
    have hl : newN K = x := by
      rw [newN, List.getLastD_eq_getLast?, List.getLast?_eq_getElem?, hn, Nat.add_sub_cancel, hx]; rfl
    rw [hl]
    rw [segV, List.getElem?_map, hx] at hc
    simp only [Option.map_some] at hc
    have g0 : ¬ ((k : Int) + 1) = 0 := by omega
    have g1 : (k : Int) + 1 - 1 = (k : Int) := by omega
    have g2 : (k : Int) < (k : Int) + 1 := by omega
    have g3 : (0 : Int) ≤ (k : Int) := by omega
    have g4 : wrap64 (k : Int) = (k : Int) := by unfold wrap64; omega
    have g5 : IntKind.i64.wrap (k : Int) = (k : Int) := by simp [IntKind.wrap, IntKind.bits, IntKind.signed]; omega
    go_enter Tryz.func60, Tryz.ntmps60
    go_wp2
    go_region
    all_goals
      go_wp2
      go_ret
      exact ⟨rfl, (Below.refl _ _).drew⟩
theorem CaskOpen.put {w : World} {N : Lo} {c d mb : Nat} {sv : Value} {S : Dk} {K K' : Ck} (h : CaskOpen w N c d mb sv S K) (i : Nat) (v : Value) (hv : (ckV d mb sv K).set i v = ckV d mb sv K') (hk : K'.kv = K.kv) (hs : K'.segs = K.segs) (hf : K'.Fine) : CaskOpen (w.setCell ⟨c, i, none⟩ v) N c d mb sv S K' := by
  have hh := h.holds.set i v
  rw [hv] at hh
  refine ⟨hh, h.le, h.guard2, fun j hj => by simpa using h.lt j hj, ?_, ?_, h.disk.setOther c i v _ 28 h.holds (by decide) (by decide) (by decide), hf⟩
  · rw [hk]
    refine h.keys.same (heap_setCell_other w ⟨c, i, none⟩ mb v (fun (e : mb = c) => ?_))
    obtain ⟨es, cl, q⟩ := h.keys.isMap
    have q2 := h.holds
    unfold Holds at q2
    rw [e, q2] at q; cases q
  · rw [hs]
    refine row_same h.row (fun j cs fr hj => heap_setCell_other w ⟨c, i, none⟩ j v (fun (e : j = c) => ?_))
    have q2 := h.holds
    unfold Holds at q2
    rw [e, q2] at hj
    simp at hj
end Go.Proofs.YtfmmholkeadejaaGreatDoor

/- A cask is synced. -/
namespace Go.Proofs.YtfmmholkeadejaaGreatDoor
open Go.RowKit

theorem meth_settle (x y : Value) (w : World) : (method 392 106 (.agg #[x, y]) "murmuration/cask.settle").run Tryz.prog w = .ok (263, .agg #[x, y]) w := by kernel_rfl
theorem meth_lay (x y : Value) (w : World) : (method 392 106 (.agg #[x, y]) "murmuration/cask.lay").run Tryz.prog w = .ok (260, .agg #[x, y]) w := by kernel_rfl
theorem meth_numbers (x y : Value) (w : World) : (method 392 106 (.agg #[x, y]) "murmuration/cask.numbers").run Tryz.prog w = .ok (261, .agg #[x, y]) w := by kernel_rfl
theorem meth_changes (x y : Value) (w : World) : (method 392 106 (.agg #[x, y]) "murmuration/cask.changes").run Tryz.prog w = .ok (259, .agg #[x, y]) w := by kernel_rfl
theorem newN_in {K : Ck} (h : K.segs ≠ []) (hf : K.Fine) : 1 ≤ newN K ∧ newN K ≤ 999999 := by
  have : newN K ∈ K.segs := by
    rw [newN, List.getLastD_eq_getLast?, List.getLast?_eq_some_getLast h]
    exact List.getLast_mem h
  exact hf.segs _ this
theorem csync_broken (c d mb : Nat) (sv : Value) (K : Ck) (w : World) (h : Holds w c (ckV d mb sv K) 28) (hb : K.broken = true) : Calls Tryz.prog 20 #[.pointer (some ⟨c, 0, none⟩)] w fun e w' => e = .returned (.int .i64 24) ∧ w' = w := by
  have hr : Hid (Calls Tryz.prog 56 #[.pointer (some ⟨c, 0, none⟩)] w fun e w' => e = .returned (.int .i64 24) ∧ w' = w) := by
    have := ready_some c d mb sv K w h
    rw [readyE, if_pos hb] at this
    exact this
  go_enter Tryz.func20, Tryz.ntmps20
  go_wp2_with (go_at_call 56; refine hr.out.mono ?_; rintro e w1 ⟨rfl, rfl⟩)
  go_ret
  exact ⟨rfl, rfl⟩
theorem ready_ok (c d mb : Nat) (sv : Value) (K : Ck) (w : World) (h : Holds w c (ckV d mb sv K) 28) (hb : K.broken = false) : Hid (Calls Tryz.prog 56 #[.pointer (some ⟨c, 0, none⟩)] w fun e w' => e = .returned (.int .i64 0) ∧ w' = w) := by
  have := ready_some c d mb sv K w h
  rw [readyE, if_neg (by rw [hb]; decide)] at this
  exact this
theorem csync_firm (c d mb : Nat) (sv : Value) (K : Ck) (w : World) (h : Holds w c (ckV d mb sv K) 28) (hb : K.broken = false) (hl : K.loose = false) : Calls Tryz.prog 20 #[.pointer (some ⟨c, 0, none⟩)] w fun e w' => e = .returned (.int .i64 0) ∧ w' = w := by
  have hr := ready_ok c d mb sv K w h hb
  have c5 := h.at 5 _ rfl
  rw [hl] at c5
  go_enter Tryz.func20, Tryz.ntmps20
  go_wp2_with (go_at_call 56; refine hr.out.mono ?_; rintro e w1 ⟨rfl, rfl⟩)
  go_ret
  exact ⟨rfl, rfl⟩
/-- The cask behind a Sync with that error. -/
def syncK (K : Ck) (E : Int) : Ck := { K with loose := (E != 0), broken := heedB E }
theorem syncK_fine {K : Ck} (h : K.Fine) (hl : K.segs ≠ []) (E : Int) : (syncK K E).Fine := ⟨h.rise, h.nm, h.segs, h.many, h.keys, h.size, h.recs, h.left, fun _ => hl, h.live⟩
set_option maxHeartbeats 3200000 in
set_option maxRecDepth 100000 in
theorem csync_loose (N : Lo) (c d mb : Nat) (sv : Value) (S : Dk) (K : Ck) (w : World) (h : CaskOpen w N c d mb sv S K) (hN : N ≤ w.heap.size) (hT : Tab N w) (hb : K.broken = false) (hl : K.loose = true) :
    Calls Tryz.prog 20 #[.pointer (some ⟨c, 0, none⟩)] w fun e w' => e = .returned (.int .i64 (eachE S (fileB K.nm (newN K)))) ∧ CaskOpen w' N c d mb sv (setS S (fileB K.nm (newN K))) (syncK K (eachE S (fileB K.nm (newN K)))) ∧ CUpd N (Own c mb sv) w w' := by
  have hne := h.fine.busy hl
  obtain ⟨n1, n2⟩ := newN_in hne h.fine
  have hr := ready_ok c d mb sv K w h.holds hb
  have c5 := h.holds.at 5 _ rfl
  rw [hl] at c5
  obtain ⟨H, hH⟩ : ∃ H, w.heap.size = H := ⟨_, rfl⟩
  have hnw : Hid (∀ W, Below H w W → Calls Tryz.prog 60 #[.pointer (some ⟨c, 0, none⟩)] W fun e w' => e = .returned (.int .i64 (newN K : Int)) ∧ Below H w w') := fun W hW => by
    have hW' : Below w.heap.size w W := hH ▸ hW
    have hs := hW.size
    exact (newest_some N c d mb sv K W (h.holds.below hW' h.holds.lt) (row_below h.row hW') h.fine.many).mono fun _ _ ⟨e1, e2⟩ => ⟨e1, hW.trans (e2.mono (by omega))⟩
  have hcell : Hid (∀ W, Below H w W → W.cell? ⟨c, 0, none⟩ = some (.iface 106 (.agg #[.pointer (some ⟨d, 0, none⟩), .string K.nm]))) := fun W hW => (h.holds.below (hH ▸ hW : Below w.heap.size w W) h.holds.lt).at 0 _ rfl
  have hse : Hid (∀ W, Below H w W → Calls Tryz.prog 263 #[.agg #[.pointer (some ⟨d, 0, none⟩), .string K.nm], .int .i64 (newN K : Int)] W fun e w' => e = .returned (.int .i64 (eachE S (fileB K.nm (newN K)))) ∧ CaskOpen w' N c d mb sv (setS S (fileB K.nm (newN K))) K ∧ DUpd N w w') := fun W hW => by
    have hW' : Below w.heap.size w W := hH ▸ hW
    have hs := hW.size
    exact (settles_any N d S K.nm h.fine.nm (newN K) n1 n2 W (h.disk.below hW') (by omega) (hT.on (hW.mono (by omega)))).mono fun _ _ ⟨e1, e2, e3⟩ => ⟨e1, h.dupd ((DUpd.ofBelow hW').trans e3) e2, (DUpd.ofBelow hW').trans e3⟩
  have hhe : Hid (∀ W S' E, CaskOpen W N c d mb sv S' K → DUpd N w W → Calls Tryz.prog 59 #[.pointer (some ⟨c, 0, none⟩), .int .i64 E] W fun e w' => e = .returned (.int .i64 E) ∧ CaskOpen w' N c d mb sv S' { K with broken := heedB E } ∧ CUpd N (Own c mb sv) w w') := fun W S' E hC hu => by
    refine (heed_some c d mb sv K E W hC.holds).mono fun e w' ⟨e1, e2⟩ => ⟨e1, ?_⟩
    subst e2
    exact ⟨hC.put 6 _ rfl rfl rfl ⟨h.fine.rise, h.fine.nm, h.fine.segs, h.fine.many, h.fine.keys, h.fine.size, h.fine.recs, h.fine.left, h.fine.busy, h.fine.live⟩, (CUpd.ofD hu).set c 6 _ (.inl rfl)⟩
  have hfin : Hid (∀ W S' E, CaskOpen W N c d mb sv S' { K with broken := heedB E } → CUpd N (Own c mb sv) w W → W.cell? ⟨c, 5, none⟩ = some (.bool K.loose) ∧ W.frozen? ⟨c, 5, none⟩ = false ∧ CaskOpen (W.setCell ⟨c, 5, none⟩ (.bool (E != 0))) N c d mb sv S' (syncK K E) ∧ CUpd N (Own c mb sv) w (W.setCell ⟨c, 5, none⟩ (.bool (E != 0)))) := fun W S' E hC hu =>
    ⟨hC.holds.at 5 _ rfl, hC.holds.frozen 5, hC.put 5 _ rfl rfl rfl (syncK_fine h.fine hne E), hu.set c 5 _ (.inl rfl)⟩
  generalize eachE S (fileB K.nm (newN K)) = E at *
  generalize setS S (fileB K.nm (newN K)) = S2 at *
  have B0 : Hid (Below H w w.drew) := (Below.refl _ _).drew
  have d0 := hcell.out _ B0.out
  clear h hT hN hb hl hne
  generalize newN K = nn at *
  have hmt := @meth_settle
  go_enter Tryz.func20, Tryz.ntmps20
  go_wp2_with (go_at_call 56; refine hr.out.mono ?_; rintro e w1 ⟨rfl, rfl⟩)
  go_region_with (first
    | (go_at_call 59; refine (hhe.out _ _ _ o2 u2).mono ?_; rintro e w3 ⟨rfl, o3, u3⟩)
    | (go_at_call 263; refine (hse.out _ b1).mono ?_; rintro e w2 ⟨rfl, o2, u2⟩)
    | (go_at_call 60; refine (hnw.out _ B0.out).mono ?_; rintro e w1 ⟨rfl, b1⟩; have q0 := hcell.out _ b1))
  all_goals
    obtain ⟨r1, r2, r3, r4⟩ := hfin.out _ _ _ o3 u3
    have R3 : Hid (CaskOpen (w3.setCell ⟨c, 5, none⟩ (.bool (E != 0))) N c d mb sv S2 (syncK K E)) := r3
    have R4 : Hid (CUpd N (Own c mb sv) _ (w3.setCell ⟨c, 5, none⟩ (.bool (E != 0)))) := r4
    clear r3 r4 hfin o3 u3
    go_wp2
    go_ret
    exact ⟨rfl, R3.out, R4.out⟩
end Go.Proofs.YtfmmholkeadejaaGreatDoor

/- A record is appended to a cask's newest segment. -/
namespace Go.Proofs.YtfmmholkeadejaaGreatDoor
open Go.RowKit

set_option maxHeartbeats 3200000 in
set_option maxRecDepth 100000 in
theorem extend_some (N : Lo) (c d mb : Nat) (sv : Value) (S : Dk) (K : Ck) (r : ByteArray) (hr : r.size ≤ 140737488355328) (w : World) (h : CaskOpen w N c d mb sv S K) (hN : N ≤ w.heap.size) (hT : Tab N w) (hne : K.segs ≠ []) (hlen : S.fs.length < 256) :
    Calls Tryz.prog 111 #[.pointer (some ⟨c, 0, none⟩), .string r] w fun e w' => e = .returned (.int .i64 (layE S r)) ∧ CaskOpen w' N c d mb sv (layT S (fileB K.nm (newN K)) r) { K with broken := heedB (layE S r) } ∧ CUpd N (Own c mb sv) w w' := by
  obtain ⟨n1, n2⟩ := newN_in hne h.fine
  obtain ⟨H, hH⟩ : ∃ H, w.heap.size = H := ⟨_, rfl⟩
  have hnw : Hid (∀ W, Below H w W → Calls Tryz.prog 60 #[.pointer (some ⟨c, 0, none⟩)] W fun e w' => e = .returned (.int .i64 (newN K : Int)) ∧ Below H w w') := fun W hW => by
    have hW' : Below w.heap.size w W := hH ▸ hW
    have hs := hW.size
    exact (newest_some N c d mb sv K W (h.holds.below hW' h.holds.lt) (row_below h.row hW') h.fine.many).mono fun _ _ ⟨e1, e2⟩ => ⟨e1, hW.trans (e2.mono (by omega))⟩
  have hcell : Hid (∀ W, Below H w W → W.cell? ⟨c, 0, none⟩ = some (.iface 106 (.agg #[.pointer (some ⟨d, 0, none⟩), .string K.nm]))) := fun W hW => (h.holds.below (hH ▸ hW : Below w.heap.size w W) h.holds.lt).at 0 _ rfl
  have hla : Hid (∀ W, Below H w W → Calls Tryz.prog 260 #[.agg #[.pointer (some ⟨d, 0, none⟩), .string K.nm], .int .i64 (newN K : Int), .string r] W fun e w' => e = .returned (.int .i64 (layE S r)) ∧ CaskOpen w' N c d mb sv (layT S (fileB K.nm (newN K)) r) K ∧ DUpd N w w') := fun W hW => by
    have hW' : Below w.heap.size w W := hH ▸ hW
    have hs := hW.size
    exact (lays_any N d S K.nm h.fine.nm (newN K) n1 n2 r hr W (h.disk.below hW') (by omega) (hT.on (hW.mono (by omega))) hlen (fun i gi => by have := h.lt i gi; omega)).mono fun _ _ ⟨e1, e2, e3⟩ => ⟨e1, h.dupd ((DUpd.ofBelow hW').trans e3) e2, (DUpd.ofBelow hW').trans e3⟩
  have hhe : Hid (∀ W S' E, CaskOpen W N c d mb sv S' K → DUpd N w W → Calls Tryz.prog 59 #[.pointer (some ⟨c, 0, none⟩), .int .i64 E] W fun e w' => e = .returned (.int .i64 E) ∧ CaskOpen w' N c d mb sv S' { K with broken := heedB E } ∧ CUpd N (Own c mb sv) w w') := fun W S' E hC hu => by
    refine (heed_some c d mb sv K E W hC.holds).mono fun e w' ⟨e1, e2⟩ => ⟨e1, ?_⟩
    subst e2
    exact ⟨hC.put 6 _ rfl rfl rfl ⟨h.fine.rise, h.fine.nm, h.fine.segs, h.fine.many, h.fine.keys, h.fine.size, h.fine.recs, h.fine.left, h.fine.busy, h.fine.live⟩, (CUpd.ofD hu).set c 6 _ (.inl rfl)⟩
  generalize layE S r = E at *
  generalize layT S (fileB K.nm (newN K)) r = S2 at *
  have B0 : Hid (Below H w w.drew) := (Below.refl _ _).drew
  have d0 := hcell.out _ B0.out
  clear h hT hN hne
  generalize newN K = nn at *
  have hmt := @meth_lay
  go_enter Tryz.func111, Tryz.ntmps111
  go_wp2_with fail
  go_region_with (first
    | (go_at_call 59; refine (hhe.out _ _ _ o2 u2).mono ?_; rintro e w3 ⟨rfl, o3, u3⟩)
    | (go_at_call 260; refine (hla.out _ b1).mono ?_; rintro e w2 ⟨rfl, o2, u2⟩)
    | (go_at_call 60; refine (hnw.out _ B0.out).mono ?_; rintro e w1 ⟨rfl, b1⟩; have q0 := hcell.out _ b1))
  all_goals
    go_wp2
    go_ret
    exact ⟨rfl, o3, u3⟩
end Go.Proofs.YtfmmholkeadejaaGreatDoor

/- A change counts in a cask. -/
namespace Go.Proofs.YtfmmholkeadejaaGreatDoor
open Go.RowKit Go.Maps Go.WideMaps

theorem cund25 : Tryz.prog.underlying 25 = some (.map 9 103) := by kernel_rfl
theorem ckeys_perm {w : World} {fs : Fs} {mb n : Nat} {D : DataW Unit} (hown : w.ownsMap Tryz.prog 9 pairElem mb n D) (hr : Rising fs) (hh : ∀ k, has D (.string k) = (get fs k).isSome) : (fs.map Prod.fst).Perm (strKeys D) := by
  obtain ⟨es, hD, hpw, _⟩ := hown.entries law9
  obtain ⟨es', hD', hko⟩ := hown.keysOf
  obtain rfl : es = es' := by rw [hD] at hD'; simpa using hD'
  subst hD
  exact perm_strKeys hpw (fun p hp => by obtain ⟨v, hv⟩ := hko p hp; obtain ⟨x, _, hx, _⟩ := Maps.keyOf_str und9 hv; exact ⟨x, hx⟩) hr.nodup (fun x => by rw [hh x, get_isSome])
theorem ckeys_size {w : World} {fs : Fs} {mb n : Nat} {D : DataW Unit} (hown : w.ownsMap Tryz.prog 9 pairElem mb n D) (hr : Rising fs) (hh : ∀ k, has D (.string k) = (get fs k).isSome) : Maps.size D = fs.length := by
  have h := (ckeys_perm hown hr hh).length_eq
  obtain ⟨es, rfl⟩ := hown.isMap
  rw [List.length_map] at h
  rw [h]
  show es.length = (es.map _).length
  rw [List.length_map]
theorem ckeys_tight {w : World} {mb n : Nat} {D : DataW Unit} (h : w.ownsMap Tryz.prog 9 pairElem mb n D) : w.ownsMap Tryz.prog 9 pairElem mb (Maps.size D) D := by
  obtain ⟨es, clock, hb, F, hs, hD⟩ := h
  refine ⟨es, clock, hb, F, ?_, hD⟩
  rw [hD]
  show es.size ≤ List.length _
  rw [length_read]
  exact Nat.le_refl _
theorem ckeys_put {w w1 : World} {mb n n1 : Nat} {D : DataW Unit} {kv : Fs} (hown : w.ownsMap Tryz.prog 9 pairElem mb n D) (hat : ∀ k, D.atKey (.string k) .nil = pk k (get kv k)) (hhas : ∀ k, has D (.string k) = (get kv k).isSome)
    (k : List UInt8) (f : Fl) (h1 : w1.ownsMap Tryz.prog 9 pairElem mb n1 (D.put (.string k) (.agg [.lit (.string k), .lit (.string f.bytes)]))) : KeysAt w1 mb (put k f kv) := by
  refine ⟨n1, _, h1, fun x => ?_, fun x => ?_⟩
  · rw [get_put]
    by_cases e : x = k
    · subst e
      rw [if_pos rfl, atKey_put_same hown.isMap (isKeyLit_str _)]; rfl
    · rw [if_neg e, atKey_put_other (lit_ne e), hat]
  · rw [get_put]
    by_cases e : x = k
    · subst e
      rw [if_pos rfl, has_put_same hown.isMap (isKeyLit_str _)]; rfl
    · rw [if_neg e, has_put_other (lit_ne e), hhas]
theorem ckeys_del {w1 : World} {mb n1 : Nat} {D : DataW Unit} {kv : Fs} (hr : Rising kv) (hat : ∀ k, D.atKey (.string k) .nil = pk k (get kv k)) (hhas : ∀ k, has D (.string k) = (get kv k).isSome)
    (k : List UInt8) (h1 : w1.ownsMap Tryz.prog 9 pairElem mb n1 (D.del (.string k))) : KeysAt w1 mb (del k kv) := by
  refine ⟨n1, _, h1, fun x => ?_, fun x => ?_⟩
  · rw [get_del hr]
    by_cases e : x = k
    · subst e
      rw [if_pos rfl, atKey_del_same]; rfl
    · rw [if_neg e, atKey_del_other (lit_ne e), hat]
  · rw [get_del hr]
    by_cases e : x = k
    · subst e
      rw [if_pos rfl, has_del_same]; rfl
    · rw [if_neg e, has_del_other (lit_ne e), hhas]
/-- The map of a cask is turned. -/
theorem CaskOpen.turn {w w' : World} {N : Lo} {c d mb : Nat} {sv : Value} {S : Dk} {K : Ck} (h : CaskOpen w N c d mb sv S K) (hg : w.grownBy w' (some mb)) (kv : Fs) (hk : KeysAt w' mb kv) (hf : Ck.Fine { K with kv := kv }) : CaskOpen w' N c d mb sv S { K with kv := kv } := by
  have hcells : ∀ (i : Nat) cs t fr, w.heap[i]? = some (Obj.cells cs t fr) → w'.heap[i]? = w.heap[i]? := fun i cs t fr hi => hg.block i (Array.getElem?_eq_some_iff.1 hi).1 (fun e => by
    obtain rfl : i = mb := by simpa using e
    obtain ⟨es, cl, q⟩ := h.keys.isMap
    rw [q] at hi; cases hi)
  refine ⟨?_, h.le, h.guard2, fun i hi => Nat.lt_of_lt_of_le (h.lt i hi) hg.size, hk, row_same h.row (fun i cs fr hi => hcells i cs 3 fr hi), ?_, hf⟩
  · have q := h.holds
    unfold Holds at q ⊢
    rw [hcells c _ _ _ q]; exact q
  · obtain ⟨mv, st, A, V, hH, hN, hM, hF, hS⟩ := h.disk
    refine ⟨mv, st, A, V, ?_, hN, ?_, hF.same (fun i cs t fr hi _ => hcells i cs t fr hi), hS⟩
    · unfold Holds at hH ⊢
      rw [hcells d _ _ _ hH]; exact hH
    · rcases hM with h0 | ⟨mb2, n, D, e, hNm, hown, h1, h2⟩
      · exact .inl h0
      · refine .inr ⟨mb2, n, D, e, hNm, ?_, h1, h2⟩
        have hne : mb2 ≠ mb := fun e2 => hNm.2 (e2 ▸ h.guard)
        obtain ⟨es, cl, hb, r⟩ := hown
        exact ⟨es, cl, (hg.block mb2 (Array.getElem?_eq_some_iff.1 hb).1 (fun e3 => hne (by simpa using e3))).trans hb, r⟩
theorem CUpd.turn {N : Lo} {L : Nat → Prop} {x y z : World} {mb : Nat} (h : CUpd N L x y) (hg : y.grownBy z (some mb)) (hL : L mb) : CUpd N L x z :=
  h.trans ⟨hg.os, hg.tape, hg.output, hg.size, fun i hi hl _ => hg.block i hi (fun e => hl (by
    obtain rfl : i = mb := by simpa using e
    exact hL))⟩
/-- The keys behind a change. -/
def takeF (ch : Ch) (kv : Fs) : Fs := if ch.dead = true then del ch.k.data.toList kv else put ch.k.data.toList ⟨ch.v.data.toList, 0⟩ kv
def takeK (K : Ck) (ch : Ch) : Ck := { K with recs := K.recs + 1, kv := takeF ch K.kv }
theorem takeF_rise (ch : Ch) {kv : Fs} (h : Rising kv) : Rising (takeF ch kv) := by
  unfold takeF
  split
  · exact h.del _
  · exact h.put _ _
theorem takeF_keys (ch : Ch) (hc : ch.Ok) {kv : Fs} (h : ∀ p ∈ kv, p.1.length ≤ 255 ∧ p.2.bytes.length ≤ 60000) : ∀ p ∈ takeF ch kv, p.1.length ≤ 255 ∧ p.2.bytes.length ≤ 60000 := by
  have hz := cfE_zero hc
  unfold takeF
  split
  · exact fun p hp => h p ((del_sub _ kv).subset hp)
  · intro p hp
    rcases keys_put _ _ kv p hp with rfl | hp
    · exact ⟨hz.2.1, hz.2.2⟩
    · exact h p hp
theorem takeF_len (ch : Ch) (kv : Fs) : (takeF ch kv).length ≤ kv.length + 1 := by
  unfold takeF
  split
  · have := len_del kv ch.k.data.toList; omega
  · exact len_put_le kv _ _
theorem takeK_fine {K : Ck} (h : K.Fine) (ch : Ch) (hc : ch.Ok) (h1 : K.kv.length < 16777216) (h2 : K.recs < 4611686018427387903) : (takeK K ch).Fine :=
  ⟨takeF_rise ch h.rise, h.nm, h.segs, h.many, takeF_keys ch hc h.keys, by have := takeF_len ch K.kv; show (takeF ch K.kv).length ≤ _; omega, ⟨by have := h.recs; show 0 ≤ K.recs + 1; omega, by show K.recs + 1 < _; omega⟩, h.left, h.busy, h.live⟩
end Go.Proofs.YtfmmholkeadejaaGreatDoor

/- A change counts in a cask: the walk. -/
namespace Go.Proofs.YtfmmholkeadejaaGreatDoor
open Go.RowKit Go.Maps Go.WideMaps

theorem CaskOpen.alloc {w : World} {N : Lo} {c d mb : Nat} {sv : Value} {S : Dk} {K : Ck} (h : CaskOpen w N c d mb sv S K) (o : Obj) : CaskOpen (w.alloc o) N c d mb sv S K := h.dupd ((DUpd.refl N w).alloc o) (h.disk.alloc o)
theorem CaskOpen.drew {w : World} {N : Lo} {c d mb : Nat} {sv : Value} {S : Dk} {K : Ck} (h : CaskOpen w N c d mb sv S K) : CaskOpen w.drew N c d mb sv S K := h.dupd (DUpd.refl N w).drew h.disk.drew
/-- A cask's own blocks but its list of segments. -/
def Own2 (c mb i : Nat) : Prop := i = c ∨ i = mb
theorem CUpd.mono {N : Lo} {L L' : Nat → Prop} {w w' : World} (h : CUpd N L w w') (hL : ∀ i, L i → L' i) : CUpd N L' w w' := ⟨h.os, h.tape, h.output, h.size, fun i hi hl hc => h.block i hi (fun q => hl (hL i q)) hc⟩
theorem own2_own (c mb : Nat) (sv : Value) : ∀ i, Own2 c mb i → Own c mb sv i := fun _ hi => hi.imp id .inl
set_option maxHeartbeats 3200000 in
set_option maxRecDepth 100000 in
theorem take_some (N : Lo) (c d mb : Nat) (sv : Value) (S : Dk) (K : Ck) (ch : Ch) (hc : ch.Ok) (w : World) (h : CaskOpen w N c d mb sv S K) (h1 : K.kv.length < 16777216) (h2 : K.recs < 4611686018427387903) :
    Calls Tryz.prog 110 #[.pointer (some ⟨c, 0, none⟩), .agg #[.string ch.k, .string ch.v, .bool ch.dead]] w fun e w' => e = .returned (.tuple #[]) ∧ CaskOpen w' N c d mb sv S (takeK K ch) ∧ CUpd N (Own2 c mb) w w' := by
  have hz := cfE_zero hc
  obtain ⟨k, v, dead⟩ := ch
  have hz : 0 < k.size ∧ k.size ≤ 255 ∧ v.size ≤ 60000 := hz
  show Calls Tryz.prog 110 #[.pointer (some ⟨c, 0, none⟩), .agg #[.string k, .string v, .bool dead]] w _
  have hr := h.fine.recs
  have hkey := key_of k (by unfold maxLen; omega)
  obtain ⟨m, hm⟩ : ∃ m, w.heap.size = m := ⟨_, rfl⟩
  have hcm : c < m := hm ▸ h.holds.lt
  have hA := (h.put 2 (.int .i64 (K.recs + 1)) (K' := { K with recs := K.recs + 1 }) rfl rfl rfl ⟨h.fine.rise, h.fine.nm, h.fine.segs, h.fine.many, h.fine.keys, h.fine.size, ⟨by show 0 ≤ K.recs + 1; omega, by show K.recs + 1 < _; omega⟩, h.fine.left, h.fine.busy, h.fine.live⟩).alloc (.cells #[.string k, .string v, .bool dead] 52)
  have uA : CUpd N (Own2 c mb) w ((w.setCell ⟨c, 2, none⟩ (.int .i64 (K.recs + 1))).alloc (.cells #[.string k, .string v, .bool dead] 52)) := ((CUpd.refl N _ w).set c 2 _ (.inl rfl)).trans (CUpd.ofD ((DUpd.refl N _).alloc _))
  have bA : Holds ((w.setCell ⟨c, 2, none⟩ (.int .i64 (K.recs + 1))).alloc (.cells #[.string k, .string v, .bool dead] 52)) m [.string k, .string v, .bool dead] 52 := by
    have := holds_new (w.setCell ⟨c, 2, none⟩ (.int .i64 (K.recs + 1))) [.string k, .string v, .bool dead] 52
    rw [World.size_setCell, hm] at this
    exact this
  have hfine := takeK_fine h.fine ⟨k, v, dead⟩ hc h1 h2
  have a2 := h.holds.at 2 _ rfl
  have f2 := h.holds.frozen 2
  have e1w := h.holds.at 1 _ rfl
  have e1 := hA.holds.at 1 _ rfl
  have x0 := bA.at 0 _ rfl
  have x1 := bA.at 1 _ rfl
  have x2 := bA.at 2 _ rfl
  have g1 : IntKind.i64.wrap (K.recs + 1) = K.recs + 1 := by simp [IntKind.wrap, IntKind.bits, IntKind.signed]; omega
  have g2 : wrap64 (K.recs + 1) = K.recs + 1 := by unfold wrap64; omega
  obtain ⟨n, D, hown, hat, hhas⟩ := hA.keys
  have hsz := ckeys_size hown h.fine.rise hhas
  have hown2 : ((w.setCell ⟨c, 2, none⟩ (.int .i64 (K.recs + 1))).alloc (.cells #[.string k, .string v, .bool dead] 52)).drew.ownsMap Tryz.prog 9 pairElem mb (Maps.size D) D := ckeys_tight hown
  have hAd := hA.drew
  have uAd := uA.drew
  cases dead with
  | true =>
    obtain ⟨w1, hdel, hown1, hturn1⟩ := hown2.drop law9 cund25 hkey 0
    have R1 : Hid (CaskOpen w1 N c d mb sv S (takeK K ⟨k, v, true⟩)) := hAd.turn hturn1.grown (del k.data.toList K.kv) (ckeys_del h.fine.rise hat hhas k.data.toList hown1) hfine
    have R2 : Hid (CUpd N (Own2 c mb) w w1) := uAd.turn hturn1.grown (.inr rfl)
    clear h hA uA hfine hAd uAd hown hown1 hown2 hturn1 hat hhas bA hc
    go_enter Tryz.func110, Tryz.ntmps110
    go_wp2_with fail
    go_region
    all_goals
      go_wp2
      go_end0
      exact ⟨rfl, R1.out, R2.out⟩
  | false =>
    obtain ⟨w1, hput, hown1, hturn1⟩ := hown2.store law9 cund25 (by rw [hsz]; unfold maxLen; omega) hkey (val := .agg #[.string k, .string v]) (d := .agg [.lit (.string k.data.toList), .lit (.string v.data.toList)]) (ps := []) rfl
    have R1 : Hid (CaskOpen w1 N c d mb sv S (takeK K ⟨k, v, false⟩)) := hAd.turn hturn1.grown (put k.data.toList ⟨v.data.toList, 0⟩ K.kv) (ckeys_put hown2 hat hhas k.data.toList ⟨v.data.toList, 0⟩ hown1) hfine
    have R2 : Hid (CUpd N (Own2 c mb) w w1) := uAd.turn hturn1.grown (.inr rfl)
    clear h hA uA hfine hAd uAd hown hown1 hown2 hturn1 hat hhas bA hc
    go_enter Tryz.func110, Tryz.ntmps110
    go_wp2_with fail
    go_region
    all_goals
      go_wp2
      go_end0
      exact ⟨rfl, R1.out, R2.out⟩
end Go.Proofs.YtfmmholkeadejaaGreatDoor

/- A new segment is begun. -/
namespace Go.Proofs.YtfmmholkeadejaaGreatDoor
open Go.RowKit Go.Maps Go.WideMaps

/-- A Sync of a cask that is not broken: its error, the disk, the cask. -/
def csE (S : Dk) (K : Ck) : Int := if K.loose = true then eachE S (fileB K.nm (newN K)) else 0
def csS (S : Dk) (K : Ck) : Dk := if K.loose = true then setS S (fileB K.nm (newN K)) else S
def csK (S : Dk) (K : Ck) : Ck := if K.loose = true then syncK K (csE S K) else K
theorem csync_any (N : Lo) (c d mb : Nat) (sv : Value) (S : Dk) (K : Ck) (w : World) (h : CaskOpen w N c d mb sv S K) (hN : N ≤ w.heap.size) (hT : Tab N w) (hb : K.broken = false) :
    Calls Tryz.prog 20 #[.pointer (some ⟨c, 0, none⟩)] w fun e w' => e = .returned (.int .i64 (csE S K)) ∧ CaskOpen w' N c d mb sv (csS S K) (csK S K) ∧ CUpd N (Own c mb sv) w w' := by
  cases hl : K.loose with
  | true =>
    have e1 : csE S K = eachE S (fileB K.nm (newN K)) := if_pos hl
    have e2 : csK S K = syncK K (csE S K) := if_pos hl
    have e3 : csS S K = setS S (fileB K.nm (newN K)) := if_pos hl
    rw [e2, e1, e3]
    exact csync_loose N c d mb sv S K w h hN hT hb hl
  | false =>
    have hn : ¬ K.loose = true := by rw [hl]; decide
    rw [show csE S K = 0 from if_neg hn, show csK S K = K from if_neg hn, show csS S K = S from if_neg hn]
    exact (csync_firm c d mb sv K w h.holds hb hl).mono fun e w' ⟨e1, e2⟩ => by
      rw [e2]
      exact ⟨e1, h, CUpd.refl N _ w⟩
theorem csK_same (S : Dk) (K : Ck) : (csK S K).nm = K.nm ∧ (csK S K).segs = K.segs ∧ (csK S K).kv = K.kv ∧ (csK S K).recs = K.recs ∧ (csK S K).left = K.left := by
  unfold csK; split <;> simp [syncK]
theorem newN_cs (S : Dk) (K : Ck) : newN (csK S K) = newN K := by rw [newN, (csK_same S K).2.1]; rfl
theorem cfull3 : (Tryz.prog.info? 3).map (fun i => (i.zero, i.size, i.bytes)) = some (some (.int .i64 0), 1, 8) := by kernel_rfl
theorem cinf3 : ∃ i, Tryz.prog.info? 3 = some i ∧ i.zero = some (.int .i64 0) ∧ i.size = 1 ∧ i.bytes = 8 := by
  have := cfull3
  cases h : Tryz.prog.info? 3 with
  | none => simp [h] at this
  | some i =>
    simp [h] at this
    exact ⟨i, rfl, this.1, this.2.1, this.2.2⟩
/-- The list of segments has grown. -/
theorem CaskOpen.grow {w w' : World} {N : Lo} {c d mb : Nat} {sv sv' : Value} {S : Dk} {K : Ck} (h : CaskOpen w N c d mb sv S K) (hg : w.grownBy w' sv.ownBlock) (n : Nat) (hn : 1 ≤ n ∧ n ≤ 999999) (hm : K.segs.length < 16777216)
    (hr : w'.ownsRow N 3 1 sv' (K.segs.length + 1) (segV K.segs ++ [.int .i64 (n : Int)])) :
    CaskOpen ((w'.setCell ⟨c, 3, none⟩ sv').setCell ⟨c, 4, none⟩ (.int .i64 4096)) N c d mb sv' S { K with segs := K.segs ++ [n], left := 4096 } ∧ w'.cell? ⟨c, 3, none⟩ = some sv ∧ w'.frozen? ⟨c, 3, none⟩ = false ∧ w'.cell? ⟨c, 4, none⟩ = some (.int .i64 K.left) ∧ w'.frozen? ⟨c, 4, none⟩ = false := by
  have hoth : ∀ (i : Nat), (∀ cs fr, w.heap[i]? ≠ some (Obj.cells cs 3 fr)) → i < w.heap.size → w'.heap[i]? = w.heap[i]? := fun i hi hlt => hg.block i hlt (fun e => by
    rcases h.row.2 with ⟨q, _⟩ | ⟨g, cap, cur, q, hb, hgg, r⟩
    · rw [q] at e; cases e
    · rw [q] at e
      obtain rfl : i = g := by simpa [Value.ownBlock] using e
      exact hi _ _ hgg)
  have hcell : ∀ (i : Nat) cs t fr, w.heap[i]? = some (Obj.cells cs t fr) → t ≠ 3 → w'.heap[i]? = w.heap[i]? := fun i cs t fr hi ht => hoth i (fun cs' fr' e => by
    rw [hi] at e
    simp at e
    exact ht e.2.1) (Array.getElem?_eq_some_iff.1 hi).1
  have hmap : ∀ (i : Nat) es k, w.heap[i]? = some (Obj.map es k) → w'.heap[i]? = w.heap[i]? := fun i es k hi => hoth i (fun cs' fr' e => by rw [hi] at e; cases e) (Array.getElem?_eq_some_iff.1 hi).1
  have hH : Holds w' c (ckV d mb sv K) 28 := by
    have q := h.holds
    unfold Holds at q ⊢
    rw [hcell c _ _ _ q (by decide)]; exact q
  have hD : DiskAt w' N d S := by
    obtain ⟨mv, st, A, V, q, hN, hM, hF, hS⟩ := h.disk
    refine ⟨mv, st, A, V, ?_, hN, hM.same hmap, hF.same (fun i cs t fr hi ht => hcell i cs t fr hi (by rcases ht with rfl | rfl <;> decide)), hS⟩
    unfold Holds at q ⊢
    rw [hcell d _ _ _ q (by decide)]; exact q
  have hK : KeysAt w' mb K.kv := by
    obtain ⟨es, cl, q⟩ := h.keys.isMap
    exact h.keys.same (hmap mb es cl q)
  refine ⟨?_, hH.at 3 _ rfl, hH.frozen 3, hH.at 4 _ rfl, hH.frozen 4⟩
  have h3 := hH.set 3 sv'
  have hD3 := hD.setOther c 3 sv' _ 28 hH (by decide) (by decide) (by decide)
  have hne3 : ∀ (u : World) (i : Nat) (x : Value) (j : Nat), j ≠ c → (u.setCell ⟨c, i, none⟩ x).heap[j]? = u.heap[j]? := fun u i x j hj => heap_setCell_other u ⟨c, i, none⟩ j x hj
  have hmc : mb ≠ c := fun e => by
    obtain ⟨es, cl, q⟩ := h.keys.isMap
    have q2 := h.holds
    unfold Holds at q2
    rw [e, q2] at q; cases q
  have hrow : ((w'.setCell ⟨c, 3, none⟩ sv').setCell ⟨c, 4, none⟩ (.int .i64 4096)).ownsRow N 3 1 sv' (K.segs.length + 1) (segV K.segs ++ [.int .i64 (n : Int)]) := by
    refine row_same hr (fun j cs fr hj => ?_)
    have hjc : j ≠ c := fun e => by
      subst e
      unfold Holds at hH
      rw [hH] at hj
      simp at hj
    rw [hne3 _ _ _ _ hjc, hne3 _ _ _ _ hjc]
  refine ⟨h3.set 4 (.int .i64 4096), h.le, h.guard2, fun i hi => by have := h.lt i hi; have := hg.size; simp; omega, ?_, ?_, hD3.setOther c 4 _ _ 28 h3 (by decide) (by decide) (by decide), ?_⟩
  · exact hK.same (by rw [hne3 _ _ _ _ hmc, hne3 _ _ _ _ hmc])
  · have e1 : segV (K.segs ++ [n]) = segV K.segs ++ [.int .i64 (n : Int)] := by simp [segV]
    show World.ownsRow _ _ _ _ _ (K.segs ++ [n]).length (segV (K.segs ++ [n]))
    rw [e1, List.length_append]
    exact hrow
  · exact ⟨h.fine.rise, h.fine.nm, fun x hx => by
      rcases List.mem_append.1 hx with hx | hx
      · exact h.fine.segs x hx
      · simp at hx; subst hx; exact hn, by show (K.segs ++ [n]).length ≤ _; rw [List.length_append]; simp; omega, h.fine.keys, h.fine.size, h.fine.recs, ⟨by show (-4611686018427387904 : Int) < 4096; decide, by show (4096 : Int) < _; decide⟩, fun _ => by show K.segs ++ [n] ≠ []; simp, fun _ => by show K.segs ++ [n] ≠ []; simp⟩
end Go.Proofs.YtfmmholkeadejaaGreatDoor

/- (As for clock.) append of whatever slice (nil, or of no element, too) onto a row that the call owns. -/
namespace Go.Proofs.YtfmmholkeadejaaGreatDoor

theorem wpList_append_src {P : Program} {w : World} {ops : Array Oper} {rest : List Oper} {o : Oper} {a : Act} {Q : Exit → Act → World → Prop} (hgd : o.guard = none) (s x : Operand) (t : TypeId)
    (ho : o.op = .call { callee := .builtin .append, args := #[s, x], argTypes := #[t, t] })
    (base : Nat) (e : TypeId) (i : TypeInfo) (z : Value) (size bytes : Nat) (ht : P.underlying t = some (.slice e)) (hi : P.info? e = some i) (hz : i.zero = some z)
    (hsize : i.size = size) (hby : i.bytes = bytes) (hzs : z.cells.size = size) (hsz : 0 < size)
    (v : Value) (n : Nat) (xs : List Value) (hown : w.ownsRow base e size v n xs) (hs : a.eval s = v)
    (news : List Value) (ad : Option Addr) (m c : Nat) (hx : a.eval x = .slice ad m c) (hl : news.length = m * size)
    (hnews : 0 < m → ∃ p, ad = some p ∧ ∀ j u, news[j]? = some u → w.cell? (p.add j) = some u) (h1 : ∀ u ∈ news, u.oneCell' = true)
    (h63 : n + m ≤ maxLen) (hbytes : (n + m) * bytes ≤ 140737488355328) (hbase : base ≤ w.heap.size)
    (h : ∀ v' w', w'.ownsRow base e size v' (n + m) (xs ++ news) → w.grownBy w' v.ownBlock → (v'.ownBlock = v.ownBlock ∨ v'.ownBlock = some w.heap.size) → wpList P ops Q rest (a.put o.dst v') w') : wpList P ops Q (o :: rest) a w := by
  cases ad with
  | some p =>
    refine wpList_append_own_at w hgd s x t ho base e i z size bytes ht hi hz hsize hby hzs hsz v n xs hs hown p m c news hx hl ?_ h1 h63 hbytes hbase (fun v' w' a1 a2 _ a4 => h v' w' a1 a2 a4)
    rcases Nat.eq_zero_or_pos m with hm | hm
    · have : news = [] := List.eq_nil_of_length_eq_zero (by rw [hl, hm]; simp)
      subst this
      intro j u hj
      simp at hj
    · obtain ⟨p', e', h'⟩ := hnews hm
      cases e'
      exact h'
  | none =>
    have hm : m = 0 := by
      rcases Nat.eq_zero_or_pos m with hm | hm
      · exact hm
      · obtain ⟨p', e', _⟩ := hnews hm
        cases e'
    subst hm
    have : news = [] := List.eq_nil_of_length_eq_zero (by rw [hl]; simp)
    subst this
    refine wpList_plain hgd fun K hK => ?_
    have hr : (Builtin.append_ #[t, t] o.type #[v, .slice none 0 c]).run P w = .ok v w := by
      obtain ⟨_, ⟨rfl, _⟩ | ⟨g, cap, cur, rfl, _, _, hc, _⟩⟩ := id hown
      · exact run_append_nothing w t t _ e i ht hi none 0 0 (Nat.le_refl _) _ (Src.ofNil w ht c)
      · exact run_append_nothing w t t _ e i ht hi _ _ _ hc _ (Src.ofNil w ht c)
    unfold Oper.wp execOp
    simp only [ho, resolve, invoke, builtin, Sem.run_bind, Sem.run_pure, Result.andThen_ok, List.map_toArray, List.map_cons, List.map_nil, hs, hx, hr]
    exact hK _ _ (h v w (by simpa using hown) (World.grownBy.refl _ _) (.inl rfl))
end Go.Proofs.YtfmmholkeadejaaGreatDoor

/- A key's value, and how many there are. -/
namespace Go.Proofs.YtfmmholkeadejaaGreatDoor
open Go.RowKit Go.Maps Go.WideMaps

theorem zero103 (w : World) : (zeroValue 103).run Tryz.prog w = .ok (.agg #[.string ⟨#[]⟩, .string ⟨#[]⟩]) w := by kernel_rfl
theorem pair_inv {v : Value} {y : DataW Unit × List MemPlace} (h : pairElem v = some y) : ∃ a b, v = .agg #[.string a, .string b] ∧ y.1 = .agg [.lit (.string a.data.toList), .lit (.string b.data.toList)] := by
  unfold pairElem at h
  split at h
  · rename_i cs
    split at h
    · rename_i a b hl
      refine ⟨a, b, ?_, ?_⟩
      · obtain ⟨l⟩ := cs
        simp at hl
        rw [hl]
      · simp at h
        rw [← h]
    · cases h
  · cases h
/-- What a look-up tells. -/
def pairV (s : ByteArray) : Option Fl → Value
  | some f => .agg #[.string s, .string (strL f.bytes)]
  | none => .agg #[.string ⟨#[]⟩, .string ⟨#[]⟩]
theorem KeysAt.look {w : World} {mb : Nat} {kv : Fs} (h : KeysAt w mb kv) (s : ByteArray) (hs : s.size ≤ maxLen) : (Instr.lookup 25 (.map (some mb)) (.string s) true).run Tryz.prog w = .ok (.tuple #[pairV s (get kv s.data.toList), .bool (get kv s.data.toList).isSome]) w := by
  obtain ⟨n, D, ⟨es, clock, hb, F, _, rfl⟩, hat, _⟩ := h
  rcases Maps.fit_look true law9 cund25 (zero103 w) hb F (key_of s hs) with ⟨hrun, _, ha⟩ | ⟨e0, y, _, _, hrun, hR, ha, _⟩
  · have q := (ha .nil).symm.trans (hat s.data.toList)
    cases hg : get kv s.data.toList with
    | none => rw [hrun]; rfl
    | some f => rw [hg] at q; cases q
  · have q := (ha .nil).symm.trans (hat s.data.toList)
    obtain ⟨a, b, hv, hy⟩ := pair_inv hR
    rw [hy] at q
    cases hg : get kv s.data.toList with
    | none => rw [hg] at q; cases q
    | some f =>
      rw [hg] at q
      simp [pk] at q
      have ea : a = s := bytes_ext (by simpa using q.1)
      have eb : b = strL f.bytes := bytes_ext q.2
      rw [hrun, hv, ea, eb]; rfl
/-- A key's value, told. -/
def getV (kv : Fs) (s : ByteArray) : ByteArray := match get kv s.data.toList with | some f => strL f.bytes | none => ⟨#[]⟩
def getE (kv : Fs) (s : ByteArray) : Int := if (get kv s.data.toList).isSome = true then 0 else 21
theorem get_nil' (s : ByteArray) (w : World) : Calls Tryz.prog 15 #[.pointer none, .string s] w fun e w' => e = .returned (.tuple #[.string ⟨#[]⟩, .int .i64 1]) ∧ w' = w := by
  have hr := ready_nil w
  go_enter Tryz.func15, Tryz.ntmps15
  go_wp2_with (go_at_call 56; refine hr.mono ?_; rintro e w1 ⟨rfl, rfl⟩)
  go_ret2
  exact ⟨rfl, rfl⟩
set_option maxRecDepth 100000 in
theorem get_some (N : Lo) (c d mb : Nat) (sv : Value) (S : Dk) (K : Ck) (s : ByteArray) (hs : s.size ≤ maxLen) (w : World) (h : CaskOpen w N c d mb sv S K) (hb : K.broken = false) : Calls Tryz.prog 15 #[.pointer (some ⟨c, 0, none⟩), .string s] w fun e w' => e = .returned (.tuple #[.string (getV K.kv s), .int .i64 (getE K.kv s)]) ∧ Below w.heap.size w w' := by
  have hr := ready_ok c d mb sv K w h.holds hb
  have c1 := h.holds.at 1 _ rfl
  have hl := h.keys.look s hs
  rw [getV, getE]
  cases hg : get K.kv s.data.toList with
  | none =>
    rw [hg] at hl
    simp only [pairV, Option.isSome_none] at hl
    clear h
    go_enter Tryz.func15, Tryz.ntmps15
    go_wp2_with (go_at_call 56; refine hr.out.mono ?_; rintro e w1 ⟨rfl, e1⟩; rw [e1]; clear e1)
    go_ret2
    exact ⟨rfl, (Below.refl _ _).alloc (Nat.le_refl _) _⟩
  | some f =>
    rw [hg] at hl
    simp only [pairV, Option.isSome_some] at hl
    clear h
    go_enter Tryz.func15, Tryz.ntmps15
    go_wp2_with (go_at_call 56; refine hr.out.mono ?_; rintro e w1 ⟨rfl, e1⟩; rw [e1]; clear e1)
    go_ret2
    exact ⟨rfl, (Below.refl _ _).alloc (Nat.le_refl _) _⟩
theorem len_nil (w : World) : Calls Tryz.prog 22 #[.pointer none] w fun e w' => e = .returned (.int .i64 0) ∧ w' = w := by
  go_enter Tryz.func22, Tryz.ntmps22
  go_wp2
  go_ret
  exact ⟨rfl, rfl⟩
theorem len_some (N : Lo) (c d mb : Nat) (sv : Value) (S : Dk) (K : Ck) (w : World) (h : CaskOpen w N c d mb sv S K) : Calls Tryz.prog 22 #[.pointer (some ⟨c, 0, none⟩)] w fun e w' => e = .returned (.int .i64 (K.kv.length : Int)) ∧ w' = w := by
  have c1 := h.holds.at 1 _ rfl
  obtain ⟨n, D, hown, hat, hhas⟩ := h.keys
  have hsz := ckeys_size hown h.fine.rise hhas
  have hl : ∀ ty, (Builtin.len_ #[25] ty #[.map (some mb)]).run Tryz.prog w = .ok (.int .i64 (K.kv.length : Int)) w := fun ty => by rw [hown.len cund25 ty, hsz]
  clear h hat hhas hown hsz
  go_enter Tryz.func22, Tryz.ntmps22
  go_wp2
  go_ret
  exact ⟨rfl, rfl⟩
end Go.Proofs.YtfmmholkeadejaaGreatDoor
