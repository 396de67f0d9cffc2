/- How many values and letters a reading holds, against how long its bytes are; lists of numbers and of texts, opened. -/
import Derived.Test.YtlbdlipdhhpgmaaWrites
import Derived.Test.YtlbdlipdhhpgmaaRows
import Derived.SliceStrings
import Derived.Deep.Slices
namespace Go.Proofs.Ytlbdlipdhhpgmaa
open Go.ChangeShapes Go.WideShapes Go.ChangeAt Go.RowKit

theorem bulk_pos {H : Type} (d : DataW H) : 1 ≤ Rows.uptoBulk d := by
  cases d with
  | lit l => cases l <;> simp [Rows.uptoBulk]
  | _ => simp [Rows.uptoBulk]
theorem bulkAll_len {H : Type} : ∀ l : List (DataW H), l.length ≤ Rows.uptoBulkAll l
  | [] => by simp [Rows.uptoBulkAll]
  | d :: r => by
    have h1 := bulk_pos d
    have h2 := bulkAll_len r
    simp only [Rows.uptoBulkAll, List.length_cons]
    omega
theorem bulk_th {H : Type} (t : Th) : Rows.uptoBulk (thD (H := H) t) = t.s.size + 5 := by
  have e : t.s.data.toList.length = t.s.size := rfl
  simp only [thD, Rows.uptoBulk, Rows.uptoBulkAll, e]
  omega
theorem thB_len (t : Th) (h : t.n < 18446744073709551616) (hs : t.s.size < 18446744073709551616) : (thB t).length ≤ t.s.size + 10 := by
  have e : t.s.data.toList.length = t.s.size := rfl
  unfold thB thL
  split
  · have := numL_len10 (zig (wrap64 (t.n : Int))) (zig_lt _ (wrap64_fits _)); omega
  · split
    · simp [flagL]
    · split
      · have := numL_len10 t.s.size hs
        rw [textL, List.length_append, e]; omega
      · split
        · rw [rawL, e]; omega
        · have := numL_len10 t.n h; omega
theorem things_bulk {H : Type} : ∀ ts : List Th, (∀ t ∈ ts, t.Ok) → (ts.flatMap thB).length ≤ 2 * Rows.uptoBulkAll (ts.map (thD (H := H))) ∧ ∀ t ∈ ts, t.s.size ≤ Rows.uptoBulkAll (ts.map (thD (H := H)))
  | [], _ => by simp
  | t :: r, hok => by
    obtain ⟨h1, h2⟩ := things_bulk (H := H) r (fun u hu => hok u (List.mem_cons_of_mem _ hu))
    have ht := hok t (List.mem_cons_self ..)
    have hl := thB_len t ht.n (by have := ht.s; unfold maxLen at this; omega)
    simp only [List.map_cons, Rows.uptoBulkAll, bulk_th, List.flatMap_cons, List.length_append]
    refine ⟨by omega, fun u hu => ?_⟩
    rcases List.mem_cons.1 hu with rfl | hu
    · omega
    · have := h2 u hu; omega
theorem texts_bulk {H : Type} : ∀ xs : List ByteArray, (∀ x ∈ xs, x.size ≤ maxLen) → (xs.flatMap textL).length ≤ 10 * Rows.uptoBulkAll (strs (H := H) xs) ∧ ∀ x ∈ xs, x.size ≤ Rows.uptoBulkAll (strs (H := H) xs)
  | [], _ => by simp
  | x :: r, hx => by
    obtain ⟨h1, h2⟩ := texts_bulk (H := H) r (fun u hu => hx u (List.mem_cons_of_mem _ hu))
    have h0 := hx x (List.mem_cons_self ..)
    unfold maxLen at h0
    have hl := numL_len10 x.size (by omega)
    have e : x.data.toList.length = x.size := rfl
    have hc : Rows.uptoBulkAll (strs (H := H) (x :: r)) = (x.size + 1) + Rows.uptoBulkAll (strs (H := H) r) := by
      show Rows.uptoBulkAll (_ :: _) = _
      simp only [Rows.uptoBulkAll, Rows.uptoBulk, e]
      rfl
    rw [hc, List.flatMap_cons, List.length_append, textL, List.length_append, e]
    refine ⟨by omega, fun u hu => ?_⟩
    rcases List.mem_cons.1 hu with rfl | hu
    · omega
    · have := h2 u hu; omega
theorem nums_bulk : ∀ ns : List Nat, (∀ x ∈ ns, x < 18446744073709551616) → (ns.flatMap numL).length ≤ 10 * ns.length
  | [], _ => by simp
  | x :: r, hx => by
    have h1 := nums_bulk r (fun u hu => hx u (List.mem_cons_of_mem _ hu))
    have hl := numL_len10 x (hx x (List.mem_cons_self ..))
    rw [List.flatMap_cons, List.length_append, List.length_cons]
    omega

theorem open_nums {H : Type} {enc : TypeId × Value → H} {W : World} {base n : Nat} {sp : Nat → Bool} {held : Bool} {a0 : Option Addr} {len cap : Nat} {x : DataW H × List MemPlace} (h : DataW.trod enc Try.prog W base sp held n 23 [.slice a0 len cap] = some x) :
    ∃ ns : List Nat, ns.length = len ∧ NumsAt W a0 ns ∧ (∀ y ∈ ns, y < 18446744073709551616) ∧ len ≤ Rows.uptoBulk x.1 := by
  rcases Go.Deep.open_slice1 Try.underlying23 cells31 h with ⟨hcs, hx⟩ | ⟨a, len', cap', m, fn, V, D, Pl, hcs, _, hlc, hcm, hm, hx, hel⟩
  · simp at hcs
    exact ⟨[], by simp [hcs.2.1], .inl rfl, by simp, by omega⟩
  · simp at hcs
    obtain ⟨rfl, rfl, rfl⟩ := hcs
    subst hx
    have hbulk : len ≤ Rows.uptoBulk (DataW.slice ((List.range len).map D) ((List.range (m - len)).map fun j => D (len + j))) := by
      have := bulkAll_len ((List.range len).map D)
      simp only [Rows.uptoBulk, List.length_map, List.length_range] at this ⊢
      omega
    rcases Nat.eq_zero_or_pos len with h0 | hpos
    · exact ⟨[], by simp [h0], .inl rfl, by simp, hbulk⟩
    · obtain ⟨g, o, spot⟩ := a
      have hml : len ≤ m := by rw [hm]; split <;> omega
      have each : ∀ i, ∃ y : Nat, i < len → y < 18446744073709551616 ∧ W.cell? ((⟨g, o, spot⟩ : Addr).add i) = some (.int .u64 (y : Int)) := fun i => by
        by_cases hi : i < len
        · obtain ⟨h1, h2⟩ := hel i (by omega)
          obtain ⟨q, e, _, wq⟩ := DataW.trod_int Try.underlying31 h2
          have hq := wf_u64 wq
          obtain ⟨q', rfl⟩ := Int.eq_ofNat_of_zero_le hq.1
          simp at e
          exact ⟨q', fun _ => ⟨by have := hq.2; omega, by rw [h1, e]⟩⟩
        · exact ⟨0, fun h => absurd h hi⟩
      obtain ⟨F, hF⟩ := Classical.axiomOfChoice each
      have hspot : spot = none := by simpa [Addr.add] using World.cell?_spot (hF 0 hpos).2
      subst hspot
      refine ⟨(List.range len).map F, by simp, .inr ⟨g, o, rfl, ?_, fun i y hy => ?_⟩, fun y hy => ?_, hbulk⟩
      · have := (hF 0 hpos).2
        rw [addr_plus] at this
        exact World.block_lt_of_cell? W _ this
      · have hi' : i < len := by have := (List.getElem?_eq_some_iff.1 hy).1; simpa using this
        rw [List.getElem?_map, List.getElem?_range hi'] at hy
        obtain rfl := Option.some.inj hy
        have := (hF i hi').2
        rwa [addr_plus] at this
      · obtain ⟨i, hi, rfl⟩ := List.mem_map.1 hy
        exact (hF i (List.mem_range.1 hi)).1
theorem open_texts {H : Type} {enc : TypeId × Value → H} {W : World} {base n : Nat} {sp : Nat → Bool} {held : Bool} {a0 : Option Addr} {len cap : Nat} {x : DataW H × List MemPlace} (h : DataW.trod enc Try.prog W base sp held n 24 [.slice a0 len cap] = some x) :
    ∃ xs : List ByteArray, xs.length = len ∧ TextsAt W a0 xs ∧ (xs.flatMap textL).length ≤ 10 * Rows.uptoBulk x.1 ∧ (∀ y ∈ xs, y.size ≤ Rows.uptoBulk x.1) ∧ len ≤ Rows.uptoBulk x.1 := by
  rcases open_strings Try.underlying24 Try.underlying9 cells9 h with ⟨hcs, hx⟩ | ⟨a, len', cap', zs, hcs, _, hlc, hcm, hz, hx, hcell, hsz⟩
  · simp at hcs
    exact ⟨[], by simp [hcs.2.1], .inl rfl, by simp, by simp, by omega⟩
  · simp at hcs
    obtain ⟨rfl, rfl, rfl⟩ := hcs
    subst hx
    have hlz : len ≤ zs.length := by rw [hz]; split <;> omega
    have hlen : (zs.take len).length = len := by rw [List.length_take]; omega
    obtain ⟨t1, t2⟩ := texts_bulk (H := H) (zs.take len) (fun y hy => hsz y (List.mem_of_mem_take hy))
    have hl := bulkAll_len (strs (H := H) (zs.take len))
    have hl2 : (strs (H := H) (zs.take len)).length = len := by rw [strs, List.length_map, hlen]
    rw [hl2] at hl
    have hb : Rows.uptoBulkAll (strs (H := H) (zs.take len)) ≤ Rows.uptoBulk (DataW.slice (strs (H := H) (zs.take len)) (strs (zs.drop len))) := by
      simp only [Rows.uptoBulk]; omega
    refine ⟨zs.take len, hlen, ?_, by show _ ≤ 10 * Rows.uptoBulk (DataW.slice _ _); omega, fun y hy => by show _ ≤ Rows.uptoBulk (DataW.slice _ _); have := t2 y hy; omega, by show _ ≤ Rows.uptoBulk (DataW.slice _ _); omega⟩
    rcases Nat.eq_zero_or_pos len with h0 | hpos
    · exact .inl (by rw [hlen]; exact h0)
    · obtain ⟨g, o, spot⟩ := a
      have hspot : spot = none := by simpa [Addr.add] using World.cell?_spot (hcell 0 (by omega))
      subst hspot
      refine .inr ⟨g, o, rfl, ?_, fun i y hy => ?_⟩
      · have := hcell 0 (by omega)
        rw [addr_plus] at this
        exact World.block_lt_of_cell? W _ this
      · have hi' : i < len := by have := (List.getElem?_eq_some_iff.1 hy).1; omega
        have := hcell i (by omega)
        rw [addr_plus] at this
        rw [this, List.getD_eq_getElem?_getD]
        rw [List.getElem?_take_of_lt hi'] at hy
        rw [hy]; rfl
end Go.Proofs.Ytlbdlipdhhpgmaa
