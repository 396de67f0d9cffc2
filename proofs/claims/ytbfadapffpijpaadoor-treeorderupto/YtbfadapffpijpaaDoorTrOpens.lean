/- Lists of keys with sums, and of texts, that came in, opened; how great they are. -/
import Derived.Test.YtbfadapffpijpaaDoorTrOrdH
import Derived.Test.YtbfadapffpijpaaDoorRows
import Derived.SliceStrings
import Derived.Deep.Slices
import Derived.ProofKit
import Derived.Carry
import Derived.OpenShut
namespace Go.Proofs.YtbfadapffpijpaaDoor
open Go.ChangeShapes Go.WideShapes Go.ChangeAt Go.WideMaps Go.WideElems Go.RowKit

theorem bytes26 : Tryd.prog.bytesOf 26 = 32 := by kernel_rfl
theorem cells26 : Tryd.prog.cellsOf 26 = 32 := by kernel_rfl
theorem cells46 : Tryd.prog.cellsOf 46 = 33 := by kernel_rfl
theorem cells9 : Tryd.prog.cellsOf 9 = 1 := by kernel_rfl
theorem cells5 : Tryd.prog.cellsOf 5 = 1 := by kernel_rfl
theorem laidOutT : laidOutB Tryd.prog = true := by kernel_rfl
theorem addr_plus (b o i : Nat) : (⟨b, o, none⟩ : Addr).add i = ⟨b, o + i, none⟩ := by simp [Addr.add]
/-- The byte in a cell. -/
def toByte : Value → UInt8
  | .int _ k => UInt8.ofNat k.toNat
  | _ => 0
set_option maxRecDepth 100000 in
theorem sum_of {H : Type} {enc : TypeId × Value → H} {W : World} {base n : Nat} {sp : Nat → Bool} {held : Bool} {cs : List Value} {y : DataW H × List MemPlace} (h : DataW.trod enc Tryd.prog W base sp held n 26 cs = some y) : ∃ l : List UInt8, l.length = 32 ∧ cs = l.map byteV := by
  obtain ⟨xs, m, rfl, hx, hl, hlen, hel⟩ := DataW.trod_array und26 h
  rw [cells26] at hl
  refine ⟨cs.map toByte, by rw [List.length_map, hl], ?_⟩
  apply List.ext_getElem?
  intro j
  rw [List.map_map, List.getElem?_map]
  by_cases hj : j < 32
  · have h1 := hel j hj
    rw [List.getElem?_eq_getElem (by omega), cells5, Nat.mul_one] at h1
    obtain ⟨k, e1, _, e3⟩ := DataW.trod_int und5 h1
    have h3 : (cs.drop j)[0]? = some (.int .u8 k) := by
      have : ((cs.drop j).take 1)[0]? = some (.int .u8 k) := by rw [e1]; rfl
      rwa [List.getElem?_take_of_lt (by omega)] at this
    rw [List.getElem?_drop, Nat.add_zero] at h3
    rw [h3]
    have hk : 0 ≤ k ∧ k < 256 := by
      have : (decide (IntKind.u8.min ≤ k) && decide (k ≤ IntKind.u8.max)) = true := e3
      have hmin : IntKind.u8.min = 0 := by decide
      have hmax : IntKind.u8.max = 255 := by decide
      rw [hmin, hmax] at this
      simp at this
      omega
    simp only [Option.map_some, Function.comp_apply, toByte, byteV]
    congr 2
    rw [UInt8.toNat_ofNat']
    omega
  · rw [List.getElem?_eq_none (by omega)]; rfl
theorem trod_struct2 {H : Type} {enc : TypeId × Value → H} {P : Program} {w : World} {base : Nat} {spare : Nat → Bool} {held : Bool} {t : TypeId} {f0 f1 : Field} {fuel : Nat} {cs : List Value} {x : DataW H × List MemPlace} (ht : P.underlying t = some (.struct #[f0, f1])) (h : DataW.trod enc P w base spare held fuel t cs = some x) :
    ∃ y0 y1 n, cs.length = P.cellsOf t ∧ x.1 = .agg [y0.1, y1.1] ∧ DataW.trod enc P w base spare held n f0.type ((cs.drop f0.offset).take (P.cellsOf f0.type)) = some y0 ∧
      DataW.trod enc P w base spare held n f1.type ((cs.drop f1.offset).take (P.cellsOf f1.type)) = some y1 := by
  obtain ⟨xs, n, _, rfl, hl, hlen, hf⟩ := DataW.trod_struct ht h
  match xs, hlen with
  | [y0, y1], _ => exact ⟨y0, y1, n, hl, rfl, by simpa using hf 0 f0 rfl, by simpa using hf 1 f1 rfl⟩
theorem fields46 : ∃ f0 f1 : Field, Tryd.prog.underlying 46 = some (.struct #[f0, f1]) ∧ f0.type = 9 ∧ f0.offset = 0 ∧ f1.type = 26 ∧ f1.offset = 1 := ⟨_, _, Tryd.underlying46, rfl, rfl, rfl, rfl⟩
set_option maxRecDepth 100000 in
theorem sm_of {H : Type} {enc : TypeId × Value → H} {W : World} {base n : Nat} {sp : Nat → Bool} {held : Bool} {cs : List Value} {y : DataW H × List MemPlace} (h : DataW.trod enc Tryd.prog W base sp held n 46 cs = some y) :
    ∃ p : ByteArray × List UInt8, p.2.length = 32 ∧ cs = .string p.1 :: p.2.map byteV ∧ p.1.size + 1 ≤ Rows.uptoBulk y.1 := by
  obtain ⟨f0, f1, hu, t0, o0, t1, o1⟩ := fields46
  obtain ⟨y0, y1, m, hl, hy, h0, h1⟩ := trod_struct2 hu h
  rw [cells46] at hl
  rw [t0, o0, cells9] at h0
  rw [t1, o1, cells26] at h1
  obtain ⟨k, e0, r0, w0⟩ := DataW.trod_string Tryd.underlying9 h0
  obtain ⟨s, hs, e1⟩ := sum_of h1
  refine ⟨(k, s), hs, ?_, ?_⟩
  · have : cs = (cs.drop 0).take 1 ++ (cs.drop 1).take 32 := by
      rw [List.drop_zero, List.take_of_length_le (l := cs.drop 1) (by rw [List.length_drop]; omega), List.take_append_drop]
    rw [this, e0, e1]; rfl
  · rw [hy, r0]
    have hz : k.data.toList.length = k.size := Array.length_toList
    simp only [Rows.uptoBulk, Rows.uptoBulkAll]
    omega
theorem bulk_sum {H : Type} (f : Nat → Nat) (D : Nat → DataW H) : ∀ l : List Nat, (∀ i ∈ l, f i ≤ 64 * Rows.uptoBulk (D i)) → (l.map f).sum ≤ 64 * Rows.uptoBulkAll (l.map D)
  | [], _ => by simp
  | i :: l, h => by
    have h1 := h i (List.mem_cons_self ..)
    have h2 := bulk_sum f D l (fun j hj => h j (List.mem_cons_of_mem _ hj))
    simp only [List.map_cons, List.sum_cons, Rows.uptoBulkAll]
    omega
set_option maxRecDepth 100000 in
theorem open_sums {H : Type} {enc : TypeId × Value → H} {W : World} {base n : Nat} {sp : Nat → Bool} {held : Bool} {v : Value} {x : DataW H × List MemPlace} (h : DataW.trod enc Tryd.prog W base sp held n 40 [v] = some x) :
    ∃ l : Ps, SumsAt W v l ∧ wtP l ≤ 64 * Rows.uptoBulk x.1 := by
  rcases Go.Deep.open_slice Tryd.underlying40 h with ⟨hcs, hx⟩ | ⟨a, len, cap, m, fn, D, Pl, hcs, _, hlc, hcm, hm, hx, hel⟩
  · simp at hcs
    subst hcs
    exact ⟨[], ⟨fun p hp => absurd hp (by simp), none, 0, rfl, fun i p hp => absurd hp (by simp)⟩, by simp [wtP]⟩
  · simp at hcs
    subst hcs
    rw [cells46] at hel
    obtain ⟨g, o, spot⟩ := a
    have hml : len ≤ m := by rw [hm]; split <;> omega
    have each : ∀ i, ∃ p : ByteArray × List UInt8, i < len → (p.2.length = 32 ∧ p.1.size + 1 ≤ Rows.uptoBulk (D i)) ∧ ∀ (j : Nat) (v : Value), (Value.string p.1 :: p.2.map byteV)[j]? = some v → W.cell? (((⟨g, o, spot⟩ : Addr).add (i * 33)).add j) = some v := fun i => by
      by_cases hi : i < len
      · obtain ⟨cs, h1, h2⟩ := hel i (by omega)
        obtain ⟨p, h3, rfl, h4⟩ := sm_of h2
        refine ⟨p, fun _ => ⟨⟨h3, h4⟩, fun j v hv => ?_⟩⟩
        have hj := (List.getElem?_eq_some_iff.1 hv).1
        rw [(World.cells?_some h1).2.2 j (by simp [h3] at hj; omega)]; exact hv
      · exact ⟨(⟨#[]⟩, []), fun h => absurd h hi⟩
    obtain ⟨F, hF⟩ := Classical.axiomOfChoice each
    have hbulk : wtP ((List.range len).map F) ≤ 64 * Rows.uptoBulk x.1 := by
      have := bulk_sum (fun i => (F i).1.size + 64) D (List.range len) (fun i hi => by
        have := (hF i (List.mem_range.1 hi)).1.2
        omega)
      rw [hx]
      simp only [Rows.uptoBulk]
      unfold wtP
      rw [List.map_map]
      have e : (List.map ((fun p : ByteArray × List UInt8 => p.1.size + 64) ∘ F) (List.range len)).sum = ((List.range len).map fun i => (F i).1.size + 64).sum := rfl
      rw [e]
      omega
    refine ⟨(List.range len).map F, ⟨fun p hp => ?_, some ⟨g, o, spot⟩, cap, by simp, fun i p hp => ?_⟩, hbulk⟩
    · obtain ⟨i, hi, rfl⟩ := List.mem_map.1 hp
      exact (hF i (List.mem_range.1 hi)).1.1
    · have hi' : i < len := by have := (List.getElem?_eq_some_iff.1 hp).1; simpa using this
      rw [List.getElem?_map, List.getElem?_range hi'] at hp
      obtain rfl := Option.some.inj hp
      have hc := (hF i hi').2
      have hc0 := hc 0 _ rfl
      have hspot : spot = none := by
        have hq := (hF 0 (by omega)).2 0 _ rfl
        simpa [Addr.add] using World.cell?_spot hq
      subst hspot
      rw [addr_plus, addr_plus, Nat.add_zero] at hc0
      refine ⟨g, o, rfl, World.block_lt_of_cell? W _ hc0, hc0, fun j v hv => ?_⟩
      have := hc (j + 1) v hv
      rw [addr_plus, addr_plus] at this
      rw [show o + i * 33 + 1 + j = o + i * 33 + (j + 1) by omega]
      exact this
set_option maxRecDepth 100000 in
theorem open_strs {H : Type} {enc : TypeId × Value → H} {W : World} {base n : Nat} {sp : Nat → Bool} {held : Bool} {v : Value} {x : DataW H × List MemPlace} (h : DataW.trod enc Tryd.prog W base sp held n 44 [v] = some x) :
    ∃ l : List ByteArray, StrsAt W (fun _ => False) v l ∧ wtO l ≤ 64 * Rows.uptoBulk x.1 := by
  rcases Go.Deep.open_slice Tryd.underlying44 h with ⟨hcs, hx⟩ | ⟨a, len, cap, m, fn, D, Pl, hcs, _, hlc, hcm, hm, hx, hel⟩
  · simp at hcs
    subst hcs
    exact ⟨[], ⟨none, 0, rfl, fun i p hp => by simp at hp⟩, by simp [wtO]⟩
  · simp at hcs
    subst hcs
    rw [cells9] at hel
    obtain ⟨g, o, spot⟩ := a
    have hml : len ≤ m := by rw [hm]; split <;> omega
    have each : ∀ i, ∃ p : ByteArray, i < len → p.size + 1 ≤ Rows.uptoBulk (D i) ∧ W.cell? (((⟨g, o, spot⟩ : Addr).add (i * 1)).add 0) = some (.string p) := fun i => by
      by_cases hi : i < len
      · obtain ⟨cs, h1, h2⟩ := hel i (by omega)
        obtain ⟨k, rfl, r0, w0⟩ := DataW.trod_string Tryd.underlying9 h2
        have hz : k.data.toList.length = k.size := Array.length_toList
        refine ⟨k, fun _ => ⟨?_, ?_⟩⟩
        · have : D i = .lit (.string k.data.toList) := congrArg Prod.fst r0
          rw [this]
          simp only [Rows.uptoBulk]
          omega
        · rw [(World.cells?_some h1).2.2 0 (by omega)]; rfl
      · exact ⟨⟨#[]⟩, fun h => absurd h hi⟩
    obtain ⟨F, hF⟩ := Classical.axiomOfChoice each
    have hbulk : wtO ((List.range len).map F) ≤ 64 * Rows.uptoBulk x.1 := by
      have := bulk_sum (fun i => (F i).size + 64) D (List.range len) (fun i hi => by
        have := (hF i (List.mem_range.1 hi)).1
        omega)
      rw [hx]
      simp only [Rows.uptoBulk]
      unfold wtO
      rw [List.map_map]
      have e : (List.map ((fun p : ByteArray => p.size + 64) ∘ F) (List.range len)).sum = ((List.range len).map fun i => (F i).size + 64).sum := rfl
      rw [e]
      omega
    refine ⟨(List.range len).map F, ⟨some ⟨g, o, spot⟩, cap, by simp, fun i p hp => ?_⟩, hbulk⟩
    have hi' : i < len := by have := (List.getElem?_eq_some_iff.1 hp).1; simpa using this
    rw [List.getElem?_map, List.getElem?_range hi'] at hp
    obtain rfl := Option.some.inj hp
    have hc0 := (hF i hi').2
    have hspot : spot = none := by
      have hq := (hF 0 (by omega)).2
      simpa [Addr.add] using World.cell?_spot hq
    subst hspot
    rw [addr_plus, addr_plus, Nat.mul_one, Nat.add_zero] at hc0
    exact ⟨g, o, rfl, World.block_lt_of_cell? W _ hc0, fun q => q, hc0⟩
end Go.Proofs.YtbfadapffpijpaaDoor
