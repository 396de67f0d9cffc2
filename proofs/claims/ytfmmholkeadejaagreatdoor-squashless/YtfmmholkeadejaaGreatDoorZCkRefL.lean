/- The document's Last (37): a key's value behind changes. -/
import Derived.Test.YtfmmholkeadejaaGreatDoorZC6
namespace Go.Proofs.YtfmmholkeadejaaGreatDoor
open Go.RowKit

/-- From cell o of block b on lie the changes l. -/
def RowI (w : World) (b o : Nat) (l : List Ch) : Prop := ∀ i c, l[i]? = some c → w.cell? ⟨b, o + i * 3, none⟩ = some (.string c.k) ∧ w.cell? ⟨b, o + i * 3 + 1, none⟩ = some (.string c.v) ∧ w.cell? ⟨b, o + i * 3 + 2, none⟩ = some (.bool c.dead)
/-- A slice of changes. -/
def ChgAt (w : World) (v : Value) (l : List Ch) : Prop := ∃ a cap, v = .slice a l.length cap ∧ (l ≠ [] → ∃ b o, a = some ⟨b, o, none⟩ ∧ b < w.heap.size ∧ RowI w b o l)
theorem RowI.below {w w' : World} {b o m : Nat} {l : List Ch} (h : RowI w b o l) (hb : Below m w w') (hlt : b < m) : RowI w' b o l := fun i p e =>
  ⟨(hb.cell (p := ⟨b, o + i * 3, none⟩) hlt).trans (h i p e).1, (hb.cell (p := ⟨b, o + i * 3 + 1, none⟩) hlt).trans (h i p e).2.1, (hb.cell (p := ⟨b, o + i * 3 + 2, none⟩) hlt).trans (h i p e).2.2⟩
theorem ChgAt.below {w w' : World} {v : Value} {l : List Ch} (h : ChgAt w v l) (hb : Below w.heap.size w w') : ChgAt w' v l := by
  obtain ⟨a, cap, rfl, h⟩ := h
  refine ⟨a, cap, rfl, fun hne => ?_⟩
  obtain ⟨b, o, rfl, hlt, hr⟩ := h hne
  exact ⟨b, o, rfl, Nat.lt_of_lt_of_le hlt hb.size, hr.below hb hlt⟩
/-- What stands behind place n tells nothing of the key. -/
theorem kvOf_cut (l : List Ch) (k : List UInt8) : ∀ n, n ≤ l.length → (∀ i c, n ≤ i → l[i]? = some c → c.k.data.toList ≠ k) → get (kvOf l) k = get (kvOf (l.take n)) k := by
  intro n hn h
  induction hm : l.length - n generalizing n with
  | zero => rw [List.take_of_length_le (by omega)]
  | succ m ih =>
    have hlt : n < l.length := by omega
    have e : l.take (n + 1) = l.take n ++ [l[n]] := by rw [List.take_add_one, List.getElem?_eq_getElem hlt]; rfl
    rw [ih (n + 1) (by omega) (fun i c hi => h i c (by omega)) (by omega), e, kvOf_snoc, get_take (kvOf_rise _), if_neg (fun q => h n l[n] (Nat.le_refl _) (List.getElem?_eq_getElem hlt) q.symm)]
theorem kvOf_hit (l : List Ch) (k : ByteArray) (n : Nat) (c : Ch) (hc : l[n]? = some c) (hk : c.k = k) (h : ∀ i c, n + 1 ≤ i → l[i]? = some c → c.k.data.toList ≠ k.data.toList) : get (kvOf l) k.data.toList = if c.dead = true then none else some ⟨c.v.data.toList, 0⟩ := by
  have hlt : n < l.length := (List.getElem?_eq_some_iff.1 hc).1
  rw [kvOf_cut l k.data.toList (n + 1) hlt h, List.take_add_one, hc]
  show get (kvOf (l.take n ++ [c])) _ = _
  rw [kvOf_snoc, get_take (kvOf_rise _), if_pos (by rw [hk])]
set_option maxRecDepth 100000 in
set_option maxHeartbeats 2000000 in
theorem refLast_any (u : Value) (l : List Ch) (k : ByteArray) (hl : l.length < 4611686018427387904) (w : World) (hu : ChgAt w u l) :
    Calls Tryz.prog 37 #[u, .string k] w fun e w' => e = .returned (.tuple #[.string (getV (kvOf l) k), .int .i64 (getE (kvOf l) k)]) ∧ Below w.heap.size w w' := by
  obtain ⟨a, cap, rfl, hu'⟩ := id hu
  obtain ⟨n, hn⟩ : ∃ n, l.length = n := ⟨_, rfl⟩
  rw [hn] at hl ⊢
  obtain ⟨x, hx⟩ : ∃ x, getV (kvOf l) k = x := ⟨_, rfl⟩
  obtain ⟨y, hy⟩ : ∃ y, getE (kvOf l) k = y := ⟨_, rfl⟩
  have hx : Hid (getV (kvOf l) k = x) := hx
  have hy : Hid (getE (kvOf l) k = y) := hy
  rw [hx.out, hy.out]
  clear hu
  have hw0 : IntKind.i64.wrap ((n : Int) - 1) = (n : Int) - 1 := by simp [IntKind.wrap, IntKind.bits, IntKind.signed]; omega
  go_enter Tryz.func37, Tryz.ntmps37
  go_wp2
  go_loopw [6] (fun p wr => ∃ j : Nat, j ≤ n ∧ p = .int .i64 ((j : Int) - 1) ∧ wr = w ∧ Hid (∀ i c, j ≤ i → l[i]? = some c → c.k.data.toList ≠ k.data.toList)) (fun p _ => (intOf p + 1).toNat)
  case atStart => exact ⟨n, Nat.le_refl _, rfl, rfl, fun i c hi hc => by have := (List.getElem?_eq_some_iff.1 hc).1; omega⟩
  case round =>
    obtain ⟨j, hj, rfl, rfl, hno⟩ := hrel
    cases j with
    | zero =>
      have hg : get (kvOf l) k.data.toList = none := by rw [kvOf_cut l k.data.toList 0 (Nat.zero_le _) hno.out]; rfl
      have ex : x = ⟨#[]⟩ := by rw [← hx.out, getV, hg]
      have ey : y = 21 := by rw [← hy.out, getE, hg]; rfl
      subst ex ey
      clear hx hy hu' hw0 hno hg
      go_wp2
      go_ret2
      exact ⟨rfl, Below.refl _ _⟩
    | succ m =>
      obtain ⟨c, hc⟩ : ∃ c, l[m]? = some c := ⟨_, List.getElem?_eq_getElem (by omega)⟩
      obtain ⟨b, o, rfl, hb, hr⟩ := hu' (fun e => by rw [e] at hc; simp at hc)
      obtain ⟨r1, r2, r3⟩ := hr m c hc
      have e1 : ((m + 1 : Nat) : Int) - 1 = (m : Int) := by omega
      have g1 : (0 : Int) ≤ (m : Int) := by omega
      have g2 : (m : Int) < (n : Int) := by omega
      have g3 : IntKind.i64.wrap ((m : Int) - 1) = (m : Int) - 1 := by simp [IntKind.wrap, IntKind.bits, IntKind.signed]; omega
      rw [e1]
      by_cases hk : c.k = k
      · have hh := kvOf_hit l k m c hc hk (fun i c' hi => hno.out i c' hi)
        subst hk
        clear hr hno hw0 hc hu' e1
        cases hd : c.dead with
        | true =>
          rw [hd] at r3
          rw [hd, if_pos rfl] at hh
          have ex : x = ⟨#[]⟩ := by rw [← hx.out, getV, hh]
          have ey : y = 21 := by rw [← hy.out, getE, hh]; rfl
          subst ex ey
          clear hx hy hh
          go_wp2
          go_ret2
          exact ⟨rfl, Below.refl _ _⟩
        | false =>
          rw [hd] at r3
          rw [hd, if_neg (by decide)] at hh
          have ex : x = c.v := by rw [← hx.out, getV, hh]; exact bytes_ext rfl
          have ey : y = 0 := by rw [← hy.out, getE, hh]; rfl
          subst ex ey
          clear hx hy hh
          go_wp2
          go_ret2
          exact ⟨rfl, Below.refl _ _⟩
      · have hk2 : c.k.data.toList ≠ k.data.toList := fun e => hk (bytes_ext e)
        have hno' : Hid (∀ i c, m ≤ i → l[i]? = some c → c.k.data.toList ≠ k.data.toList) := fun i c' hi hc' => by
          rcases Nat.eq_or_lt_of_le hi with rfl | hi
          · rw [hc] at hc'; cases hc'; exact hk2
          · exact hno.out i c' hi hc'
        have hk3 : (c.k.toList == k.toList) = false := by rw [Go.ByteArray.toList_eq, Go.ByteArray.toList_eq]; exact beq_eq_false_iff_ne.2 hk2
        clear hr hno hw0 hc hu' e1
        go_wp2
        go_roundw
        case rel => exact ⟨m, by omega, rfl, trivial, hno'⟩
        case measure => simp
end Go.Proofs.YtfmmholkeadejaaGreatDoor
