/- A file is made; bytes are appended. -/
import Derived.Test.YtfmmholkeadejaaGreatDoorZD2
namespace Go.Proofs.YtfmmholkeadejaaGreatDoor
open Go.RowKit Go.Maps Go.WideMaps

theorem heapOld (w : World) (o : Obj) (i : Nat) (h : i < w.heap.size) : (w.alloc o).heap[i]? = w.heap[i]? := ((Below.refl _ w).alloc (Nat.le_refl _) o).block i h
theorem OpenAt.make {w w1 : World} {N : Lo} {d : Nat} {S : Dk} {mv mv' : Value} {st : Int} {A : List UInt8 → Option Nat} {V : List UInt8 → Value} (h : OpenAt w N d S mv st A V) (k : List UInt8) (hk : get S.fs k = none) (hlen : S.fs.length < 256) (hkl : k.length ≤ 32) (b : Nat) (hb : w.heap.size ≤ b)
    (hH : Holds w1 d (diskV mv' st S) 122) (hM : MapAt w1 N mv' (upd A k (some b))) (hB : Holds w1 b [.slice none 0 0, .int .i64 0] 128) (hs : ∀ (i : Nat) cs t fr, w.heap[i]? = some (Obj.cells cs t fr) → t ≠ 122 → w1.heap[i]? = w.heap[i]?) (hlow : ∀ i, i < w.heap.size → i < N ∨ (N.G i ∧ ∃ es c, w.heap[i]? = some (Obj.map es c)) → w1.heap[i]? = w.heap[i]?)
    (h1 : w1.os = w.os) (h2 : w1.tape = w.tape) (h3 : w1.output = w.output) (h4 : w.heap.size ≤ w1.heap.size) : DiskFile w1 N d { S with fs := put k ⟨[], 0⟩ S.fs } k b ∧ DUpd N w w1 := by
  have hd := h.holds.lt
  have hN := h.le
  refine ⟨⟨mv', st, _, _, ⟨hH, h.le, hM, h.files.make k b hb (by omega) hB (fun i cs t fr hi ht => hs i cs t fr hi (by rcases ht with rfl | rfl <;> decide)), ?_⟩, upd_same _ _ _⟩, h1, h2, h3, h4, fun i hi hc => ?_⟩
  · have hup := used_put h.fine.rise k ⟨[], 0⟩
    rw [lenAt_none hk] at hup
    simp only [List.length_nil, Nat.add_zero] at hup
    refine ⟨⟨h.fine.rise.put k _, by show (put k ⟨[], 0⟩ S.fs).length ≤ 256; have := len_put_le S.fs k ⟨[], 0⟩; omega, by show used (put k ⟨[], 0⟩ S.fs) ≤ 16777216; rw [hup]; exact h.fine.used, h.fine.room, fun p hp => ?_, h.fine.ahead⟩, h.fine.tie⟩
    rcases mem_put k _ S.fs p hp with e | hp
    · rw [e]; exact hkl
    · exact h.fine.keys p hp
  · rcases hc with hc | ⟨cs, t, fr, hc, ht, _⟩
    · exact hlow i hi hc
    · exact hs i cs t fr hc ht

/-- The world behind the making of a map, of a file. -/
def madeW (w : World) (d H : Nat) : World := ((w.alloc (.map #[] 0)).setCell ⟨d, 0, none⟩ (.map (some H)))
def madeF (w : World) (d H : Nat) : World := (madeW w d H).alloc (.cells #[.slice none 0 0, .int .i64 0] 128)
theorem eqMap_nil (w : World) : (binOp .eql 120 (.map none) (.map none)).run Tryz.prog w = .ok (.bool true) w := by kernel_rfl
theorem eqMap_some (b : Nat) (w : World) : (binOp .eql 120 (.map (some b)) (.map none)).run Tryz.prog w = .ok (.bool false) w := by kernel_rfl
set_option maxHeartbeats 1600000 in
set_option maxRecDepth 100000 in
theorem create_some (N : Lo) (d : Nat) (S : Dk) (s : ByteArray) (hs : s.size ≤ 32) (w : World) (h : DiskAt w N d S) (hk : get S.fs s.data.toList = none) (hlen : S.fs.length < 256) (hG : ∀ i, N.G i → i < w.heap.size) :
    Calls Tryz.prog 79 #[.pointer (some ⟨d, 0, none⟩), .string s] w fun e w' => ∃ b, e = .returned (.pointer (some ⟨b, 0, none⟩)) ∧ DiskFile w' N d { S with fs := put s.data.toList ⟨[], 0⟩ S.fs } s.data.toList b ∧ DUpd N w w' := by
  obtain ⟨mv, st, A, V, ho⟩ := h.open
  have hkey := key_of s (by unfold maxLen; omega)
  have hkl : s.data.toList.length ≤ 32 := hs
  have hd := ho.holds.lt
  have hNd := ho.le
  obtain ⟨H, hHs⟩ : ∃ H, w.heap.size = H := ⟨_, rfl⟩
  have HH : Hid (w.heap.size = H) := hHs
  have HO : Hid (OpenAt w N d S mv st A V) := ho
  have c0 := ho.holds.at 0 _ rfl
  have f0 := ho.holds.frozen 0
  rcases ho.map with ⟨rfl, hn⟩ | ⟨mb, n, D, rfl, hNm, hown, hat, hhas⟩
  · have hset : Holds (madeW w d H) d (diskV (.map (some H)) st S) 122 := (HO.out.holds.alloc _).set 0 _
    have hown : (madeF w d H).ownsMap Tryz.prog 9 ptrElem H 0 (.map []) := by
      have := World.ownsMap_made w Tryz.prog 9 ptrElem
      rw [hHs] at this
      exact (this.setCell (a := ⟨d, 0, none⟩) (by show H ≠ d; omega) _).alloc _
    have cb := (hset.alloc (.cells #[.slice none 0 0, .int .i64 0] 128)).at 0 _ rfl
    unfold madeW at cb
    have hmm := @run_makeMap Tryz.prog
    have hem := eqMap_nil w
    have ca := (HO.out.holds.alloc (.map #[] 0)).at 0 _ rfl
    have fa := (HO.out.holds.alloc (.map #[] 0)).frozen 0
    clear ho h
    go_enter Tryz.func79, Tryz.ntmps79
    go_wp2_with (first
      | (at_mapUpdate; refine wpList_mapUpdate_own _ rfl _ _ _ 120 rfl 9 124 law9 und120 ptrElem H 0 (.map []) rfl hown (by unfold maxLen; omega) _ _ _ rfl rfl hkey (tok (some (H + 1))) [] rfl ?_; intro w1 hown1 hg1)
      | go_in)
    go_wp2
    go_ret
    have hN := HO.out.le
    have hg1 : (madeF w d H).grownBy w1 (some H) := hg1
    have hz : (madeW w d H).heap.size = H + 1 := by unfold madeW; simp; exact HH.out
    have hz2 : (madeF w d H).heap.size = H + 2 := by unfold madeF; rw [World.size_alloc, hz]
    have hblk : ∀ i, i < H → i ≠ d → w1.heap[i]? = w.heap[i]? := fun i hi hne => (hg1.block i (by omega) (by simp; omega)).trans ((heapOld (madeW w d H) _ i (by omega)).trans ((heap_setCell_other _ ⟨d, 0, none⟩ i _ hne).trans (heapOld _ _ i (by have := HH.out; omega))))
    have hB : Holds w1 (H + 1) [.slice none 0 0, .int .i64 0] 128 := by
      have h1 := holds_new (madeW w d H) [.slice none 0 0, .int .i64 0] 128
      rw [hz] at h1
      unfold Holds
      rw [hg1.block (H + 1) (by omega) (by simp)]
      exact h1
    have hH1 : Holds w1 d (diskV (.map (some H)) st S) 122 := by
      have h1 : Holds (madeF w d H) d (diskV (.map (some H)) st S) 122 := hset.alloc (.cells #[.slice none 0 0, .int .i64 0] 128)
      unfold Holds
      rw [hg1.block d h1.lt (by simp; have := HH.out; omega)]
      exact h1
    refine ⟨H + 1, rfl, HO.out.make s.data.toList hk hlen hkl (H + 1) (by have := HH.out; omega) hH1 (map_put hown (fun k => by rw [hn]; rfl) (fun k => by rw [hn]; rfl) s.data.toList (H + 1) hown1 ⟨by have := HH.out; omega, fun g => by have := hG _ g; have := HH.out; omega⟩) hB
      (fun i cs t fr hi ht => hblk i (by have := (Array.getElem?_eq_some_iff.1 hi).1; have := HH.out; omega) (fun e => ?_)) (fun i hi hc => hblk i (by have := HH.out; omega) (by
        rcases hc with hc | ⟨_, es, c, hc⟩
        · omega
        · intro e
          subst e
          have h1 := HO.out.holds
          unfold Holds at h1
          rw [h1] at hc; cases hc)) hg1.os hg1.tape hg1.output (by have := hg1.size; have := HH.out; omega)⟩
    subst e
    have h1 := HO.out.holds
    unfold Holds at h1
    rw [h1] at hi
    simp at hi
    exact ht hi.2.1.symm
  · have hown2 : Hid ((w.alloc (.cells #[.slice none 0 0, .int .i64 0] 128)).ownsMap Tryz.prog 9 ptrElem mb (Maps.size D) D) := (ownsMap_tight hown).alloc _
    have hsz : Maps.size D ≤ 256 := by
      rw [size_files hown ho.fine.rise (fun k => by rw [hhas, ho.files.some_iff])]
      exact ho.fine.len
    have hmb := hown.lt
    have hmc : Hid (∃ es cl, w.heap[mb]? = some (.map es cl)) := by
      obtain ⟨es, cl, h1, _⟩ := hown
      exact ⟨es, cl, h1⟩
    have hAt : Hid (∀ k, D.atKey (.string k) .nil = tok (A k)) := hat
    have hHas : Hid (∀ k, has D (.string k) = (A k).isSome) := hhas
    generalize Maps.size D = n2 at *
    have hem := eqMap_some mb w
    have cb := (HO.out.holds.alloc (.cells #[.slice none 0 0, .int .i64 0] 128)).at 0 _ rfl
    clear ho h hat hhas hown
    go_enter Tryz.func79, Tryz.ntmps79
    go_wp2_with (first
      | (at_mapUpdate; refine wpList_mapUpdate_own _ rfl _ _ _ 120 rfl 9 124 law9 und120 ptrElem mb n2 D rfl hown2.out (by unfold maxLen; omega) _ _ _ rfl rfl hkey (tok (some H)) [] rfl ?_; intro w1 hown1 hg1)
      | go_in)
    go_wp2
    go_ret
    have hN := HO.out.le
    have hblk : ∀ i, i < H → i ≠ mb → w1.heap[i]? = w.heap[i]? := fun i hi hne => (hg1.block i (by simp; have := HH.out; omega) (by simp; omega)).trans (heapOld _ _ i (by have := HH.out; omega))
    have hcells : ∀ (i : Nat) cs t fr, w.heap[i]? = some (Obj.cells cs t fr) → w1.heap[i]? = w.heap[i]? := fun i cs t fr hi => hblk i (by have := (Array.getElem?_eq_some_iff.1 hi).1; have := HH.out; omega) (fun e => by
      subst e
      obtain ⟨es, cl, h1⟩ := hmc.out
      rw [h1] at hi
      cases hi)
    have hB : Holds w1 H [.slice none 0 0, .int .i64 0] 128 := by
      have h1 := holds_new w [.slice none 0 0, .int .i64 0] 128
      rw [HH.out] at h1
      unfold Holds
      rw [hg1.block H h1.lt (by simp; have := HH.out; omega)]
      exact h1
    have hH1 : Holds w1 d (diskV (.map (some mb)) st S) 122 := by
      unfold Holds
      rw [hcells d _ _ _ HO.out.holds]
      exact HO.out.holds
    exact ⟨H, rfl, HO.out.make s.data.toList hk hlen hkl H (by have := HH.out; omega) hH1 (map_put hown2.out hAt.out hHas.out s.data.toList H hown1 hNm) hB
      (fun i cs t fr hi _ => hcells i cs t fr hi) (fun i hi hc => hblk i (by have := HH.out; omega) (by
        rcases hc with hc | ⟨hc, _⟩
        · omega
        · intro e
          subst e
          exact hNm.2 hc)) hg1.os hg1.tape hg1.output (by have := hg1.size; simp at this; omega)⟩
end Go.Proofs.YtfmmholkeadejaaGreatDoor
