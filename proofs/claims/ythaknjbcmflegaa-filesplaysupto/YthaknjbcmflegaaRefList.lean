/- The document's disk: List. -/
import Derived.Test.YthaknjbcmflegaaRefGone
import Derived.Test.YthaknjbcmflegaaList
namespace Go.Proofs.Ythaknjbcmflegaa
open Go.RowKit Go.Maps Go.WideMaps

theorem full9 : (Try.prog.info? 9).map (fun i => (i.zero, i.size, i.bytes)) = some (some (.string ⟨#[]⟩), 1, 16) := by kernel_rfl
theorem inf9 : ∃ i, Try.prog.info? 9 = some i ∧ i.zero = some (.string ⟨#[]⟩) ∧ i.size = 1 ∧ i.bytes = 16 := by
  have := full9
  cases h : Try.prog.info? 9 with
  | none => simp [h] at this
  | some i =>
    simp [h] at this
    exact ⟨i, rfl, this.1, this.2.1, this.2.2⟩
/-- What is listed: nothing without power. -/
def listE (S : Dk) (p : ByteArray) : List (List UInt8) := if S.on = true then listK S p else []
def pickK (fs : Fs) (p : ByteArray) : List (List UInt8) := (fs.map Prod.fst).filter fun k => preS p (strL k)
theorem pick_step (fs : Fs) (p : ByteArray) (k : Nat) (q : List UInt8 × Fl) (h : fs[k]? = some q) : pickK (fs.take (k + 1)) p = pickK (fs.take k) p ++ (if preS p (strL q.1) = true then [q.1] else []) := by
  unfold pickK
  rw [List.take_add_one, h, List.map_append, List.filter_append]
  congr 1
  by_cases e : preS p (strL q.1) = true
  · simp [e]
  · simp [e]
def strRow (l : List (List UInt8)) : List Value := l.map fun x => .string (strL x)

set_option maxHeartbeats 1600000 in
set_option maxRecDepth 100000 in
theorem rlist_some (N r : Nat) (S : Dk) (pf : ByteArray) (w : World) (h : RefAt w N r S) : Calls Try.prog 16 #[.pointer (some ⟨r, 0, none⟩), .string pf] w fun e w' => ∃ v, e = .returned v ∧ w'.ownsRow w.heap.size 9 1 v (listE S pf).length (strRow (listE S pf)) ∧ Below w.heap.size w w' := by
  have hlen := h.good.len
  have hkeys := h.good.keys
  have hrl := h.lt
  obtain ⟨fs, a, c, hfs, c0, hrow⟩ := h.rows
  have c3 : w.cell? ⟨r, 3, none⟩ = some (.bool (!S.on)) := by
    obtain ⟨v, hH, _⟩ := h
    exact hH.at 3 _ rfl
  rw [hfs] at hlen hkeys
  have hls : listE S pf = if S.on = true then pickK fs pf else [] := by rw [listE, ← hfs]; rfl
  rw [hls]
  clear h hfs hls
  generalize S.on = on at *
  cases on with
  | false =>
    simp only [Bool.not_false] at c3
    rw [if_neg (by decide)]
    generalize fs.length = m at *
    by_cases hm : 0 < m
    · have g1 : (0 : Int) < (m : Int) := by omega
      go_enter Try.func16, Try.ntmps16
      go_wp2_with fail
      go_loopw [5, 6] (fun v c wr => c = .int .i64 0 ∧ v = .slice none 0 0 ∧ wr = w) (fun _ c _ => 0)
      case atStart => exact ⟨rfl, rfl, rfl⟩
      case round =>
        obtain ⟨rfl, rfl, rfl⟩ := hrel
        go_wp2
        go_ret
        exact ⟨_, rfl, World.ownsRow_nil _ _ _ _, Below.refl _ _⟩
    · obtain rfl : m = 0 := by omega
      go_enter Try.func16, Try.ntmps16
      go_wp2_with fail
      go_loopw [5, 6] (fun v c wr => c = .int .i64 0 ∧ v = .slice none 0 0 ∧ wr = w) (fun _ c _ => 0)
      case atStart => exact ⟨rfl, rfl, rfl⟩
      case round =>
        obtain ⟨rfl, rfl, rfl⟩ := hrel
        go_wp2
        go_ret
        exact ⟨_, rfl, World.ownsRow_nil _ _ _ _, Below.refl _ _⟩
  | true =>
    simp only [Bool.not_true] at c3
    rw [if_pos rfl]
    obtain ⟨H, hH⟩ : ∃ H, H = w.heap.size := ⟨_, rfl⟩
    obtain ⟨m, hm⟩ : ∃ m, fs.length = m := ⟨_, rfl⟩
    have M : Hid (fs.length = m) := hm
    rw [hm] at hlen c0
    have F0 : Hid (∀ wr, Below H w wr → wr.cell? ⟨r, 0, none⟩ = some (.slice a m c) ∧ wr.cell? ⟨r, 3, none⟩ = some (.bool false) ∧ RowsAt wr a fs) := fun wr hb => by
      exact ⟨(hb.cell (show r < H by omega)).trans c0, (hb.cell (show r < H by omega)).trans c3, hrow.below hb hH⟩
    obtain ⟨i9, f9, hz9, hs9, hb9⟩ := inf9
    have F9 : Hid (Try.prog.info? 9 = some i9) := f9
    have FZ : Hid (i9.zero = some (.string ⟨#[]⟩)) := hz9
    have FS : Hid (i9.size = 1) := hs9
    have FB : Hid (i9.bytes = 16) := hb9
    have HK : Hid (∀ p ∈ fs, p.1.length ≤ 32) := hkeys
    have HH : Hid (H = w.heap.size) := hH
    rw [← hH]
    clear hrow hm c0 c3 f9 hz9 hs9 hb9 hkeys hrl hH
    go_enter Try.func16, Try.ntmps16
    go_wp2_with fail
    go_loopw [5, 6] (fun v c wr => ∃ k : Nat, k ≤ m ∧ c = .int .i64 (k : Int) ∧ (∃ l : List (List UInt8), Hid (l = pickK (fs.take k) pf) ∧ l.length ≤ k ∧ wr.ownsRow H 9 1 v l.length (strRow l)) ∧ H ≤ wr.heap.size ∧ Below H w wr) (fun _ c _ => m - (intOf c).toNat)
    case atStart => exact ⟨0, by omega, rfl, ⟨[], rfl, by simp, World.ownsRow_nil _ _ _ _⟩, (by have := HH.out; omega), Below.refl _ _⟩
    case round =>
      obtain ⟨k, hk, rfl, ⟨l, hl, hlk, hown⟩, hsz, hb⟩ := hrel
      obtain ⟨c0, c3, hrow⟩ := F0.out wr hb
      by_cases hlt : k < m
      · obtain ⟨p, hp⟩ : ∃ p, fs[k]? = some p := ⟨fs[k]'(by have := M.out; omega), List.getElem?_eq_getElem _⟩
        obtain ⟨g, rfl, hc⟩ := hrow k p hp
        have d0 := hc 0 _ rfl
        simp only [Nat.add_zero] at d0
        have hps := HK.out p (List.mem_of_getElem? hp)
        have hst := pick_step fs pf k p hp
        obtain ⟨q, hq⟩ : ∃ q, strL p.1 = q := ⟨_, rfl⟩
        have hqs : q.size ≤ 32 := by rw [← hq]; exact hps
        rw [hq] at d0 hst
        have hpre : preS pf q = (decide (pf.size ≤ q.size) && ((q.extract 0 pf.size).toList == pf.toList)) := rfl
        by_cases hz : pf.size ≤ q.size
        · have g1 : (pf.size : Int) ≤ (q.size : Int) := by omega
          cases he : ((q.extract 0 pf.size).toList == pf.toList) with
          | true =>
            have hin : preS pf q = true := by rw [hpre, he]; simp [hz]
            rw [if_pos hin] at hst
            have hl2 : Hid (l ++ [p.1] = pickK (fs.take (k + 1)) pf) := by show l ++ [p.1] = _; rw [hst, hl.out]
            have hrv : Hid (strRow (l ++ [p.1]) = strRow l ++ [.string q]) := by
              show strRow (l ++ [p.1]) = _
              rw [strRow, List.map_append]; show _ ++ [Value.string (strL p.1)] = _; rw [hq]; rfl
            have hll : Hid ((l ++ [p.1]).length = l.length + 1) := by show (l ++ [p.1]).length = _; simp
            obtain ⟨n, hn⟩ : ∃ n, l.length = n := ⟨_, rfl⟩
            rw [hn] at hown hlk hll
            generalize l ++ [p.1] = l2 at *
            obtain ⟨xs, hxs⟩ : ∃ xs, strRow l = xs := ⟨_, rfl⟩
            rw [hxs] at hown hrv
            clear hc hp hst hl hn hxs hin hpre hq hps hrow F0
            go_wp2_with (first
              | (at_builtin; refine wpList_append_lies _ rfl (.tmp 45) (.tmp 47) 29 rfl H 9 i9 (.string ⟨#[]⟩) 1 16 Try.underlying29 F9.out FZ.out FS.out FB.out rfl (by omega) u5 n xs rfl (hown.alloc _) ⟨wr.heap.size, 0, none⟩ 1 1 [.string q] rfl rfl (World.news_of_block (heap_alloc_new wr (.cells #[.string q] 9))) (by intro u hu; simp at hu; rcases hu with rfl; rfl) (by omega) (by unfold maxLen; omega) (by omega) (by simp; omega) (wr.heap.size + 1) (by simp) ?_; intro g2 cap2 w3 hown3 hgrow hat hlt3))
            have b3 : Below H w w3 := below_grown (hb.alloc (by omega) _) hgrow (by simp; omega) (hown.alloc _)
            refine ⟨⟨k + 1, by omega, rfl, ⟨l2, hl2, by have := hll.out; omega, ?_⟩, (by have := b3.size; have := HH.out; omega), b3⟩, by simp; omega⟩
            rw [hrv.out, hll.out]
            exact hown3
          | false =>
            have hin : ¬ preS pf q = true := by rw [hpre, he]; simp
            rw [if_neg hin, List.append_nil] at hst
            have hl2 : Hid (l = pickK (fs.take (k + 1)) pf) := by show l = _; rw [hst]; exact hl.out
            clear hc hp hst hl hin hpre hq hps hrow F0
            go_wp2
            exact ⟨⟨k + 1, by omega, rfl, ⟨l, hl2, by omega, hown⟩, hsz, hb⟩, by simp; omega⟩
        · have g1 : ¬ (pf.size : Int) ≤ (q.size : Int) := by omega
          have hin : ¬ preS pf q = true := by rw [hpre]; simp; omega
          rw [if_neg hin, List.append_nil] at hst
          have hl2 : Hid (l = pickK (fs.take (k + 1)) pf) := by show l = _; rw [hst]; exact hl.out
          clear hc hp hst hl hin hpre hq hps hrow F0
          go_wp2
          exact ⟨⟨k + 1, by omega, rfl, ⟨l, hl2, by omega, hown⟩, hsz, hb⟩, by simp; omega⟩
      · obtain rfl : k = m := by omega
        have hl2 : Hid (l = pickK fs pf) := by
          show l = _
          rw [hl.out]; congr 1; rw [← M.out, List.take_length]
        clear hl hrow F0
        go_wp2
        go_ret
        refine ⟨_, rfl, ?_, hb⟩
        rw [← hl2.out]; exact hown
end Go.Proofs.Ythaknjbcmflegaa
