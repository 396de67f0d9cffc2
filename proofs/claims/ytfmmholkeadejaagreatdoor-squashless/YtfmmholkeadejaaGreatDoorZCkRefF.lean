/- The document's Fold (33): all keys behind changes, rising. -/
import Derived.Deep.RegionHeld3
import Derived.Deep.QuietTactic
import Derived.BigQuiet
import Derived.Sort.Walk0
import Derived.Test.YtfmmholkeadejaaGreatDoorZCkRefP
import Derived.Test.YtfmmholkeadejaaGreatDoorZC6
namespace Go.Proofs.YtfmmholkeadejaaGreatDoor
open Go.RowKit

/-- The keys of the first i changes. -/
def keysIn (l : List Ch) (i : Nat) (x : List UInt8) : Bool := (l.take i).any fun c => x == c.k.data.toList
/-- What Fold has behind i changes. -/
def outP (l : List Ch) (i : Nat) : List Pr := pickP (keysIn l i) (kvL (kvOf l))
theorem keysIn_succ {l : List Ch} {i : Nat} {c : Ch} (h : l[i]? = some c) : keysIn l (i + 1) = fun x => keysIn l i x || x == c.k.data.toList := by
  funext x
  unfold keysIn
  rw [List.take_add_one, h]
  simp
theorem outP_len (l : List Ch) (i : Nat) : (outP l i).length ≤ l.length := by
  have h1 := ldC_len ⟨#[]⟩ l []
  have h2 : (kvOf l).length ≤ l.length := h1
  have h3 : (outP l i).length ≤ (kvL (kvOf l)).length := (List.filter_sublist).length_le
  rw [kvL_len] at h3
  omega
theorem outP_zero (l : List Ch) : outP l 0 = [] := by
  unfold outP pickP keysIn
  simp
theorem outP_all (l : List Ch) : outP l l.length = kvL (kvOf l) := by
  unfold outP pickP
  refine List.filter_eq_self.2 fun p hp => ?_
  obtain ⟨q, hq, rfl⟩ := List.mem_map.1 hp
  have hg := mem_get (kvOf_rise l) hq
  obtain ⟨c, hc, e⟩ := kvOf_key l hg
  unfold keysIn
  rw [List.take_of_length_le (Nat.le_refl _)]
  exact List.any_eq_true.2 ⟨c, hc, by simp [e]⟩
theorem outP_rise (l : List Ch) (i : Nat) : RiseP (outP l i) := pick_rise (kvL_rise (kvOf_rise l)) _
theorem outP_mem {l : List Ch} {i : Nat} {k : List UInt8} : (∃ p ∈ outP l i, p.1 = k) → keysIn l i k = true ∧ (get (kvOf l) k).isSome = true := by
  rintro ⟨p, hp, rfl⟩
  obtain ⟨h1, h2⟩ := List.mem_filter.1 hp
  obtain ⟨q, hq, rfl⟩ := List.mem_map.1 h1
  exact ⟨h2, by rw [mem_get (kvOf_rise l) hq]; rfl⟩
theorem outP_in {l : List Ch} {i : Nat} {k : List UInt8} (h1 : keysIn l i k = true) (h2 : (get (kvOf l) k).isSome = true) : ∃ p ∈ outP l i, p.1 = k := by
  obtain ⟨f, hf⟩ := Option.isSome_iff_exists.1 h2
  exact ⟨(k, f.bytes), List.mem_filter.2 ⟨List.mem_map.2 ⟨_, get_mem hf, rfl⟩, h1⟩, rfl⟩
/-- A change whose key is gone, or was put in already. -/
theorem outP_skip {l : List Ch} {i : Nat} {c : Ch} (h : l[i]? = some c) (hs : get (kvOf l) c.k.data.toList = none ∨ ∃ p ∈ outP l i, p.1 = c.k.data.toList) : outP l (i + 1) = outP l i := by
  unfold outP
  rw [keysIn_succ h]
  refine pick_same _ _ ?_
  rcases hs with hs | hs
  · refine .inr fun p hp e => ?_
    obtain ⟨q, hq, rfl⟩ := List.mem_map.1 hp
    have := mem_get (kvOf_rise l) hq
    rw [show q.1 = c.k.data.toList from e] at this
    rw [hs] at this; cases this
  · exact .inl (outP_mem hs).1
theorem outP_more {l : List Ch} {i : Nat} {c : Ch} {f : Fl} (h : l[i]? = some c) (hf : get (kvOf l) c.k.data.toList = some f) (hn : ¬ ∃ p ∈ outP l i, p.1 = c.k.data.toList) :
    outP l (i + 1) = (outP l i).take (aheadP c.k.data.toList (outP l i)) ++ (c.k.data.toList, f.bytes) :: (outP l i).drop (aheadP c.k.data.toList (outP l i)) := by
  have hP : keysIn l i c.k.data.toList = false := Bool.eq_false_iff.2 (fun q => hn (outP_in q (by rw [hf]; rfl)))
  show pickP (keysIn l (i + 1)) _ = _
  rw [keysIn_succ h]
  exact pick_more (kvL_rise (kvOf_rise l)) _ _ _ (List.mem_map.2 ⟨_, get_mem hf, rfl⟩) hP
theorem less_is (p : List UInt8) (k : ByteArray) : Op.bytesLess (⟨p.toArray⟩ : ByteArray).toList k.toList = decide (p < k.data.toList) := by
  rw [Go.Proofs.bytesLess_eq, Go.ByteArray.toList_eq, Go.ByteArray.toList_eq]
/-- What an append of a beginning asks. -/
theorem ins_facts {W : World} {m LO q1 j : Nat} {a1 : Option Addr} {O : List Pr} (h : W.ownsRow m 103 2 (.slice a1 LO q1) O.length (cellsP O)) (hLO : LO = O.length) (hj : j ≤ LO) :
    (cellsP (O.take j)).length = j * 2 ∧ (0 < j → ∃ p, a1 = some p ∧ ∀ t u, (cellsP (O.take j))[t]? = some u → W.cell? (p.add t) = some u) ∧ ∀ u ∈ cellsP (O.take j), u.oneCell' = true := by
  have hl : (O.take j).length = j := by rw [List.length_take]; omega
  have h1 : ∀ O' : List Pr, ∀ u ∈ cellsP O', u.oneCell' = true := fun O' u hu => by
    obtain ⟨p, hp, hu⟩ := List.mem_flatMap.1 hu
    simp at hu
    rcases hu with rfl | rfl <;> rfl
  refine ⟨by rw [cellsP_len, hl], fun hpos => ?_, h1 _⟩
  rcases own_holdsP h rfl with ⟨e, rfl⟩ | ⟨g, cp, tl, e, hg, hcap, hcm, htl, hH⟩
  · simp at hLO; omega
  · injection e with e1 e2 e3
    refine ⟨⟨g, 0, none⟩, e1, fun t u ht => ?_⟩
    have e5 : (⟨g, 0, none⟩ : Addr).add t = ⟨g, t, none⟩ := by simp [Addr.add]; exact fun h => h.symm
    rw [e5]
    refine hH.at t u ?_
    have : cellsP O = cellsP (O.take j) ++ cellsP (O.drop j) := by rw [← cellsP_append, List.take_append_drop]
    rw [this, List.append_assoc, List.getElem?_append_left (List.getElem?_eq_some_iff.1 ht).1]
    exact ht
theorem own_lt {W : World} {m e size n : Nat} {v : Value} {xs : List Value} (h : W.ownsRow m e size v n xs) : ∀ g, v.ownBlock = some g → g < W.heap.size := fun g hg => (h.lt g hg).2
theorem kept_row {W W' : World} {row : Option Nat} {m e size n : Nat} {v : Value} {xs : List Value} (h : W.ownsRow m e size v n xs) (hg : W.grownBy W' row) (hne : ∀ g, v.ownBlock = some g → row ≠ some g) : W'.ownsRow m e size v n xs := by
  refine h.kept hg ?_
  cases hb : v.ownBlock with
  | none => exact .inl rfl
  | some g => exact .inr (fun e => hne g hb e.symm)
theorem ins_one {w W w4 : World} {LO q1 n4 c4 j : Nat} {a1 a4 : Option Addr} {O : List Pr} {xs : List Value} (h : W.ownsRow w.heap.size 103 2 (.slice a1 LO q1) O.length (cellsP O) ∧ Below w.heap.size w W) (own4 : w4.ownsRow w.heap.size 103 2 (.slice a4 n4 c4) j xs) (grow4 : W.grownBy w4 (Value.slice none 0 0).ownBlock) (loc4 : (Value.slice a4 n4 c4).ownBlock = (Value.slice none 0 0).ownBlock ∨ (Value.slice a4 n4 c4).ownBlock = some W.heap.size) :
    Hid (w4.ownsRow w.heap.size 103 2 (.slice a4 n4 c4) j xs ∧ w4.ownsRow w.heap.size 103 2 (.slice a1 LO q1) O.length (cellsP O) ∧ Below w.heap.size w w4 ∧ ∀ g, (Value.slice a1 LO q1).ownBlock = some g → (Value.slice a4 n4 c4).ownBlock ≠ some g) := by
  refine ⟨own4, kept_row h.1 grow4 (fun g _ => by simp [Value.ownBlock]), h.2.grown grow4 h.2.size (fun k hk => by simp [Value.ownBlock] at hk), fun g hg e => ?_⟩
  have hlt := own_lt h.1 g hg
  rcases loc4 with q | q
  · rw [q] at e; simp [Value.ownBlock] at e
  · rw [q] at e; simp at e; omega
theorem own_cap {W : World} {m e size n c k : Nat} {p : Addr} {xs : List Value} (h : W.ownsRow m e size (.slice (some p) n c) k xs) : n ≤ c := by
  rcases h.2 with ⟨q, _⟩ | ⟨g, cap, cur, q, _, _, hc, _⟩
  · cases q
  · injection q with q1 q2 q3
    omega
theorem new_pair (W : World) (k V : ByteArray) : ∀ j u, [Value.string k, .string V][j]? = some u → (W.alloc (.cells #[.string k, .string V] 103)).cell? ((⟨W.heap.size, 0, none⟩ : Addr).add j) = some u := fun j u hu => by
  have := (holds_new W [.string k, .string V] 103).at j u hu
  have e : (⟨W.heap.size, 0, none⟩ : Addr).add j = ⟨W.heap.size, j, none⟩ := by simp [Addr.add]; exact fun h => h.symm
  rw [e]; exact this
theorem ins_two {w w4 w5 : World} {LO q1 n4 c4 n5 c5 j j5 : Nat} {a1 a4 a5 : Option Addr} {O : List Pr} {xs ys : List Value} {ob : Obj} (h : w4.ownsRow w.heap.size 103 2 (.slice a4 n4 c4) j xs ∧ w4.ownsRow w.heap.size 103 2 (.slice a1 LO q1) O.length (cellsP O) ∧ Below w.heap.size w w4 ∧ ∀ g, (Value.slice a1 LO q1).ownBlock = some g → (Value.slice a4 n4 c4).ownBlock ≠ some g)
    (own5 : w5.ownsRow w.heap.size 103 2 (.slice a5 n5 c5) j5 ys) (grow5 : (w4.alloc ob).grownBy w5 (Value.slice a4 n4 c4).ownBlock) :
    Hid (w5.ownsRow w.heap.size 103 2 (.slice a5 n5 c5) j5 ys ∧ w5.ownsRow w.heap.size 103 2 (.slice a1 LO q1) O.length (cellsP O) ∧ Below w.heap.size w w5) :=
  ⟨own5, kept_row (h.2.1.alloc ob) grow5 h.2.2.2, below_grown (h.2.2.1.alloc h.2.2.1.size ob) grow5 (by have := h.2.2.1.size; simp; omega) (h.1.alloc ob)⟩
theorem ins_drop {W : World} {m LO q1 j g0 : Nat} {O : List Pr} (h : W.ownsRow m 103 2 (.slice (some ⟨g0, 0, none⟩) LO q1) O.length (cellsP O)) (hLO : LO = O.length) (hj : j ≤ LO) :
    (cellsP (O.drop j)).length = (LO - j) * 2 ∧ (0 < LO - j → ∃ p, some (⟨g0, j * 2, none⟩ : Addr) = some p ∧ ∀ t u, (cellsP (O.drop j))[t]? = some u → W.cell? (p.add t) = some u) ∧ ∀ u ∈ cellsP (O.drop j), u.oneCell' = true := by
  refine ⟨by rw [cellsP_len, List.length_drop, hLO], fun hpos => ?_, fun u hu => ?_⟩
  · rcases own_holdsP h rfl with ⟨e, rfl⟩ | ⟨g, cp, tl, e, hg, hcap, hcm, htl, hH⟩
    · cases e
    · injection e with e1 e2 e3
      cases e1
      refine ⟨_, rfl, fun t u ht => ?_⟩
      have e5 : (⟨g0, j * 2, none⟩ : Addr).add t = ⟨g0, j * 2 + t, none⟩ := by simp [Addr.add]
      rw [e5]
      refine hH.at _ u ?_
      have : cellsP O = cellsP (O.take j) ++ cellsP (O.drop j) := by rw [← cellsP_append, List.take_append_drop]
      have hl : (cellsP (O.take j)).length = j * 2 := by rw [cellsP_len, List.length_take]; omega
      rw [this, List.append_assoc, List.getElem?_append_right (by omega), hl, Nat.add_sub_cancel_left, List.getElem?_append_left (List.getElem?_eq_some_iff.1 ht).1]
      exact ht
  · obtain ⟨p, hp, hu⟩ := List.mem_flatMap.1 hu
    simp at hu
    rcases hu with rfl | rfl <;> rfl
theorem ins_drop0 {W : World} {O : List Pr} (h : O = []) : (cellsP (O.drop 0)).length = 0 * 2 ∧ (0 < 0 → ∃ p, (none : Option Addr) = some p ∧ ∀ t u, (cellsP (O.drop 0))[t]? = some u → W.cell? (p.add t) = some u) ∧ ∀ u ∈ cellsP (O.drop 0), u.oneCell' = true := by
  subst h
  exact ⟨rfl, fun e => absurd e (by decide), fun u hu => by simp [cellsP] at hu⟩
theorem cells_new {T R : List Pr} {k V : ByteArray} {b : List UInt8} (h : V = strL b) : cellsP (T ++ (k.data.toList, b) :: R) = cellsP T ++ ([.string k, .string V] ++ cellsP R) := by
  rw [cellsP_append, h]
  rfl
theorem ins_end {w6 : World} {m n6 c6 N j LO i : Nat} {a6 : Option Addr} {l : List Ch} {O : List Pr} {k V : ByteArray} {b : List UInt8} {xs : List Value} (hmo : outP l (i + 1) = O.take j ++ (k.data.toList, b) :: O.drop j) (hV : V = strL b) (hLO : LO = O.length) (hj : j ≤ LO) (own6 : w6.ownsRow m 103 2 (.slice a6 n6 c6) N xs) (hx : xs = cellsP (O.take j) ++ ([.string k, .string V] ++ cellsP (O.drop j))) (hN : N = j + 1 + (LO - j)) :
    N = (outP l (i + 1)).length ∧ w6.ownsRow m 103 2 (.slice a6 n6 c6) (outP l (i + 1)).length (cellsP (outP l (i + 1))) := by
  have h1 : N = (outP l (i + 1)).length := by
    rw [hmo, List.length_append, List.length_cons, List.length_take, List.length_drop, hN]
    omega
  refine ⟨h1, ?_⟩
  rw [← h1, hmo, cells_new hV, ← hx]
  exact own6
set_option maxRecDepth 100000 in
set_option maxHeartbeats 4000000 in
theorem refFold_any (u : Value) (l : List Ch) (hl : l.length ≤ 16777216) (w : World) (hu : ChgAt w u l) :
    Calls Tryz.prog 33 #[u] w fun e w' => ∃ v, e = .returned v ∧ w'.ownsRow w.heap.size 103 2 v (kvL (kvOf l)).length (cellsP (kvL (kvOf l))) ∧ Below w.heap.size w w' := by
  obtain ⟨a, cap, rfl, hu'⟩ := id hu
  have hL : Hid (∀ W k, Hid (Below w.heap.size w W) → Calls Tryz.prog 37 #[.slice a l.length cap, .string k] W fun e w' => e = .returned (.tuple #[.string (getV (kvOf l) k), .int .i64 (getE (kvOf l) k)]) ∧ Hid (Below W.heap.size W w')) := fun W k hB => refLast_any _ l k (by omega) W (hu.below hB.out)
  obtain ⟨n, hn⟩ : ∃ n, l.length = n := ⟨_, rfl⟩
  have hn : Hid (l.length = n) := hn
  rw [hn.out] at hl hL ⊢
  have hu' : Hid (l ≠ [] → ∃ b o, a = some ⟨b, o, none⟩ ∧ b < w.heap.size ∧ RowI w b o l) := hu'
  clear hu
  obtain ⟨i0, hi, hz0, hz1, hz2⟩ := info_parts info103
  go_enter Tryz.func33, Tryz.ntmps33
  go_wp2
  go_loopw [3, 4] (fun v p wr => ∃ i : Nat, i ≤ n ∧ p = .int .i64 (i : Int) ∧ ∃ a1 LO q1, v = .slice a1 LO q1 ∧ Hid (LO = (outP l i).length ∧ wr.ownsRow w.heap.size 103 2 (.slice a1 LO q1) (outP l i).length (cellsP (outP l i)) ∧ Below w.heap.size w wr)) (fun _ p _ => n - (intOf p).toNat)
  case atStart => exact ⟨0, Nat.zero_le _, rfl, _, _, _, rfl, by rw [outP_zero]; exact ⟨rfl, World.ownsRow_nil _ _ _ _, Below.refl _ _⟩⟩
  case round =>
    obtain ⟨i, hi1, rfl, a1, LO, q1, rfl, hS⟩ := hrel
    rcases Nat.lt_or_ge i n with hlt | hge
    · have hln := hn.out
      obtain ⟨c, hc⟩ : ∃ c, l[i]? = some c := ⟨_, List.getElem?_eq_getElem (by omega)⟩
      have hc : Hid (l[i]? = some c) := hc
      obtain ⟨b, o, rfl, hb, hr⟩ := hu'.out (fun e => by rw [e] at hc; simp [Hid] at hc)
      obtain ⟨k, hk⟩ : ∃ k, c.k = k := ⟨_, rfl⟩
      have HC : Hid (∀ W, Below w.heap.size w W → W.cell? ⟨b, o + i * 3, none⟩ = some (.string k)) := fun W hW => by rw [← hk]; exact ((hr.below hW hb) i c hc.out).1
      have hk : Hid (c.k = k) := hk
      have sB : Hid (Below w.heap.size w wr) := hS.out.2.2
      have x0 := HC.out wr sB.out
      have g1 : (i : Int) < (n : Int) := by omega
      have g2 : (0 : Int) ≤ (i : Int) := by omega
      have g3 : IntKind.i64.wrap ((i : Int) + 1) = (i : Int) + 1 := by simp [IntKind.wrap, IntKind.bits, IntKind.signed]; omega
      obtain ⟨O, hO⟩ : ∃ O, outP l i = O := ⟨_, rfl⟩
      have hLO : Hid (LO = O.length) := by rw [← hO]; exact hS.out.1
      have hO : Hid (outP l i = O) := hO
      have hlenO : O.length ≤ 16777216 := by rw [← hO.out]; have := outP_len l i; omega
      have hS : Hid (wr.ownsRow w.heap.size 103 2 (.slice a1 LO q1) O.length (cellsP O) ∧ Below w.heap.size w wr) := by rw [← hO.out]; exact hS.out.2
      obtain ⟨V, hV⟩ : ∃ V, getV (kvOf l) k = V := ⟨_, rfl⟩
      obtain ⟨E, hE⟩ : ∃ E, getE (kvOf l) k = E := ⟨_, rfl⟩
      have h37 : Hid (Calls Tryz.prog 37 #[.slice (some ⟨b, o, none⟩) n cap, .string k] wr fun e w' => e = .returned (.tuple #[.string V, .int .i64 E]) ∧ Hid (Below wr.heap.size wr w')) := by rw [← hV, ← hE]; exact hL.out wr k sB
      have hV : Hid (getV (kvOf l) k = V) := hV
      have hE : Hid (getE (kvOf l) k = E) := hE
      obtain ⟨A, hA⟩ : ∃ A, aheadP k.data.toList O = A := ⟨_, rfl⟩
      have hLOb : LO ≤ 16777216 := by have := hLO.out; omega
      have hAL : A ≤ LO := by rw [← hA, hLO.out]; exact ahead_le _ _
      have hA : Hid (aheadP k.data.toList O = A) := hA
      clear hb hr hu' hln
      go_wp2_with (go_at_call 37; refine h37.out.mono ?_; rintro e w3 ⟨rfl, b3⟩)
      have hS3 : Hid (w3.ownsRow w.heap.size 103 2 (.slice a1 LO q1) O.length (cellsP O) ∧ Below w.heap.size w w3) := ⟨(Oth.ofBelow b3.out).row hS.out.1 (by decide) (by decide) (by decide) (by decide) (by decide), hS.out.2.trans (b3.out.mono hS.out.2.size)⟩
      have HO : Hid (∀ W, Below w3.heap.size w3 W → ∀ j p, O[j]? = some p → ∃ g, a1 = some ⟨g, 0, none⟩ ∧ W.cell? ⟨g, j * 2, none⟩ = some (encStr p.1) ∧ W.cell? ⟨g, j * 2 + 1, none⟩ = some (encStr p.2)) := fun W hW j p hp => by
        have hr := hS3.out.1
        rcases own_holdsP hr rfl with ⟨e, rfl⟩ | ⟨g, cp, tl, e, hg, hcap, hcm, htl, hH⟩
        · simp at hp
        · obtain ⟨h1, h2⟩ := cellsP_at hp tl
          injection e with e1 e2 e3
          exact ⟨g, e1, (hW.cell (p := ⟨g, j * 2, none⟩) hH.lt).trans (hH.at _ _ h1), (hW.cell (p := ⟨g, j * 2 + 1, none⟩) hH.lt).trans (hH.at _ _ h2)⟩
      have HKs : Hid (∀ W, Below w3.heap.size w3 W → outP l (i + 1) = O → LO = (outP l (i + 1)).length ∧ W.ownsRow w.heap.size 103 2 (.slice a1 LO q1) (outP l (i + 1)).length (cellsP (outP l (i + 1))) ∧ Below w.heap.size w W) := fun W hW e => by
        rw [e]
        exact ⟨hLO.out, (Oth.ofBelow hW).row hS3.out.1 (by decide) (by decide) (by decide) (by decide) (by decide), hS3.out.2.trans (hW.mono hS3.out.2.size)⟩
      have HC3 : Hid (∀ W, Below w3.heap.size w3 W → W.cell? ⟨b, o + i * 3, none⟩ = some (.string k)) := fun W hW => HC.out W (hS3.out.2.trans (hW.mono hS3.out.2.size))
      clear hS x0 sB hL
      rcases own_holdsP hS3.out.1 rfl with ⟨ea, hOn⟩ | ⟨g0, cp, tl, ea, hg0, hcap, hcm, htl, hH⟩
      · obtain ⟨rfl, hL0, rfl⟩ : a1 = none ∧ LO = 0 ∧ q1 = 0 := by
          injection ea with e1 e2 e3
          exact ⟨e1, e2, e3⟩
        subst hL0
        have hOn : Hid (O = []) := hOn
        clear ea
        go_loopw [7] (fun p wr2 => ∃ j : Nat, j ≤ A ∧ p = .int .i64 (j : Int) ∧ Hid (Below w3.heap.size w3 wr2)) (fun p _ => 0 - (intOf p).toNat)
        case atStart => exact ⟨0, Nat.zero_le _, rfl, Below.refl _ _⟩
        case round =>
          obtain ⟨j, hj, rfl, hB⟩ := hrel
          have y0 := HC3.out _ hB.out
          have g4 : (0 : Int) ≤ (j : Int) := by omega
          have g5 : IntKind.i64.wrap ((j : Int) + 1) = (j : Int) + 1 := by simp [IntKind.wrap, IntKind.bits, IntKind.signed]; omega
          have hBn : Hid (∀ q, Below w3.heap.size w3 (wr.drewN q)) := fun q => ⟨hB.out.os, hB.out.tape, hB.out.output, hB.out.size, hB.out.block⟩
          have hBn2 : Hid (∀ q q', Below w3.heap.size w3 ((wr.drewN q).drewN q')) := fun q q' => ⟨hB.out.os, hB.out.tape, hB.out.output, hB.out.size, hB.out.block⟩
          have YN : Hid (∀ q, (wr.drewN q).cell? ⟨b, o + i * 3, none⟩ = some (.string k)) := fun q => HC3.out _ (hBn.out q)
          obtain rfl : j = 0 := by omega
          have hjA : Hid (0 = A) := by show 0 = A; omega
          have g6 : decide ((0 : Int) < (0 : Int)) = false := decide_eq_false (by omega)
          have g8 : decide (0 < 0) = false := decide_eq_false (by omega)
          have hnt : Hid (¬ ∃ p ∈ outP l i, p.1 = c.k.data.toList) := fun q => by
            rw [hO.out, hk.out] at q
            obtain ⟨p, h1, h2⟩ := (ahead_there (by rw [← hO.out]; exact outP_rise l i) k.data.toList).2 q
            rw [hA.out, ← hjA.out] at h1
            have := (List.getElem?_eq_some_iff.1 h1).1
            have := hLO.out
            omega
          go_wp2_with fail
          go_quiet (fail)
          obtain ⟨nq1, rfl⟩ : ∃ nq1, nq1 = nq := ⟨_, rfl⟩
          clear HC3
          go_wp2_with fail
          go_quiet (fail)
          cases hget : get (kvOf l) k.data.toList with
          | none =>
            obtain rfl : E = 21 := by rw [← hE.out, getE, hget]; rfl
            have hsk : Hid (outP l (i + 1) = O) := by
              have := outP_skip hc.out (.inl (by rw [hk.out]; exact hget))
              rw [hO.out] at this; exact this
            clear hV hE hget
            go_wp2
            go_roundw
            case rel => exact ⟨i + 1, by omega, by simp, _, _, _, rfl, HKs.out _ (hBn.out (nq1 + nq)) hsk.out⟩
            case measure => simp; omega
          | some f =>
            obtain rfl : E = 0 := by rw [← hE.out, getE, hget]; rfl
            have hVf : Hid (V = strL f.bytes) := by show V = _; rw [← hV.out, getV, hget]
            have hmo : Hid (outP l (i + 1) = O.take 0 ++ (k.data.toList, f.bytes) :: O.drop 0) := by
              have := outP_more hc.out (by rw [hk.out]; exact hget) hnt.out
              rw [hO.out, hk.out, hA.out, ← hjA.out] at this; exact this
            have RW : Hid ((wr.drewN (nq1 + nq)).ownsRow w.heap.size 103 2 (.slice none 0 0) O.length (cellsP O) ∧ Below w.heap.size w (wr.drewN (nq1 + nq))) := ⟨(Oth.ofBelow (hBn.out (nq1 + nq))).row hS3.out.1 (by decide) (by decide) (by decide) (by decide) (by decide), hS3.out.2.trans ((hBn.out (nq1 + nq)).mono hS3.out.2.size)⟩
            have kk := YN.out (nq1 + nq)
            obtain ⟨W, hW⟩ : ∃ W, wr.drewN (nq1 + nq) = W := ⟨_, rfl⟩
            rw [hW] at RW kk
            have hnn : (wr.drewN nq1).drewN nq = W := by rw [← hW]; simp [go_sem]
            rw [hnn]
            clear hnn hW hV hE hget hBn hBn2 YN hB HKs HO y0
            obtain ⟨T1, T2, T3⟩ := ins_facts RW.out.1 hLO.out (show 0 ≤ 0 by omega) 
            go_wp2_with (first
              | (at_builtin; refine wpList_append_src rfl _ _ 39 rfl w.heap.size 103 i0 (.agg #[.string ⟨#[]⟩, .string ⟨#[]⟩]) 2 32 Tryz.underlying39 hi hz0 hz1 hz2 rfl (by decide) _ _ _ F5.out.1 rfl (cellsP (O.drop 0)) _ _ _ rfl (ins_drop0 (W := w5) hOn.out).1 (ins_drop0 (W := w5) hOn.out).2.1 (ins_drop0 (W := w5) hOn.out).2.2 (by unfold maxLen; omega) (by omega) F5.out.2.2.size ?_; intro v6 w6 own6 grow6 loc6; obtain ⟨a6, c6, rfl⟩ := row_slice own6; have b6 := below_grown F5.out.2.2 grow6 F5.out.2.2.size F5.out.1)
              | (at_builtin; refine wpList_append_src rfl _ _ 39 rfl w.heap.size 103 i0 (.agg #[.string ⟨#[]⟩, .string ⟨#[]⟩]) 2 32 Tryz.underlying39 hi hz0 hz1 hz2 rfl (by decide) _ _ _ (F4.out.1.alloc _) rfl [.string k, .string V] (some ⟨w4.heap.size, 0, none⟩) 1 1 rfl rfl (fun _ => ⟨_, rfl, new_pair w4 k V⟩) (by simp [Value.oneCell']) (by unfold maxLen; omega) (by omega) (by have := F4.out.2.2.1.size; simp; omega) ?_; intro v5 w5 own5 grow5 loc5; obtain ⟨a5, c5, rfl⟩ := row_slice own5; have F5 := ins_two F4.out own5 grow5)
              | (at_builtin; refine wpList_append_src rfl _ _ 39 rfl w.heap.size 103 i0 (.agg #[.string ⟨#[]⟩, .string ⟨#[]⟩]) 2 32 Tryz.underlying39 hi hz0 hz1 hz2 rfl (by decide) _ 0 _ (World.ownsRow_nil _ _ _ _) rfl (cellsP (O.take 0)) _ _ _ rfl T1 T2 T3 (by unfold maxLen; omega) (by omega) (by have := RW.out.2.size; exact this) ?_; intro v4 w4 own4 grow4 loc4; rw [Nat.zero_add, List.nil_append] at own4; obtain ⟨a4, c4, rfl⟩ := row_slice own4; have F4 := ins_one RW.out own4 grow4 loc4; have kk4 := HC.out w4 F4.out.2.2.1; clear own4 grow4 loc4 T2))
            go_roundw
            case rel => exact ⟨i + 1, by omega, by simp, _, _, _, rfl, (ins_end hmo.out hVf.out hLO.out (by omega) own6 (List.append_assoc _ _ _) (by omega)).1, (ins_end hmo.out hVf.out hLO.out (by omega) own6 (List.append_assoc _ _ _) (by omega)).2, b6⟩
            case measure => simp; omega
      · obtain ⟨rfl, hcq⟩ : a1 = some ⟨g0, 0, none⟩ ∧ LO ≤ q1 := by
          injection ea with e1 e2 e3
          exact ⟨e1, by have := hLO.out; omega⟩
        clear ea hg0 hcap hcm htl hH
        go_loopw [7] (fun p wr2 => ∃ j : Nat, j ≤ A ∧ p = .int .i64 (j : Int) ∧ Hid (Below w3.heap.size w3 wr2)) (fun p _ => LO - (intOf p).toNat)
        case atStart => exact ⟨0, Nat.zero_le _, rfl, Below.refl _ _⟩
        case round =>
          obtain ⟨j, hj, rfl, hB⟩ := hrel
          have y0 := HC3.out _ hB.out
          have g4 : (0 : Int) ≤ (j : Int) := by omega
          have g5 : IntKind.i64.wrap ((j : Int) + 1) = (j : Int) + 1 := by simp [IntKind.wrap, IntKind.bits, IntKind.signed]; omega
          have hBn : Hid (∀ q, Below w3.heap.size w3 (wr.drewN q)) := fun q => ⟨hB.out.os, hB.out.tape, hB.out.output, hB.out.size, hB.out.block⟩
          have hBn2 : Hid (∀ q q', Below w3.heap.size w3 ((wr.drewN q).drewN q')) := fun q q' => ⟨hB.out.os, hB.out.tape, hB.out.output, hB.out.size, hB.out.block⟩
          have YN : Hid (∀ q, (wr.drewN q).cell? ⟨b, o + i * 3, none⟩ = some (.string k)) := fun q => HC3.out _ (hBn.out q)
          rcases Nat.lt_or_ge j LO with hjl | hjg
          · obtain ⟨p, hp⟩ : ∃ p, O[j]? = some p := ⟨_, List.getElem?_eq_getElem (by have := hLO.out; omega)⟩
            obtain ⟨g, eg, c0, c1⟩ := HO.out _ hB.out j p hp
            cases eg
            obtain ⟨p1, p2⟩ := p
            have hlss := less_is p1 k
            have hls2 : Op.bytesLess p1 k.toList = decide (p1 < k.data.toList) := by rw [Go.Proofs.bytesLess_eq, Go.ByteArray.toList_eq]
            have hls3 : Op.bytesLess p1 k.data.toList = decide (p1 < k.data.toList) := by rw [Go.Proofs.bytesLess_eq]
            have g6 : decide ((j : Int) < (LO : Int)) = true := decide_eq_true (by omega)
            have g7 : (j : Int) < (LO : Int) := by omega
            have g8 : decide (j < LO) = true := decide_eq_true hjl
            have hstep : Hid (_ ∨ _) := ahead_step (by rw [hA.out]; exact hj) hp
            unfold encStr at c0
            by_cases hpk : p1 < k.data.toList
            · rw [decide_eq_true hpk] at hlss hls2 hls3
              have hj1 : j + 1 ≤ A := by
                rcases hstep.out with ⟨_, q⟩ | ⟨q, _⟩
                · rw [hA.out] at q; exact q
                · exact absurd hpk q
              clear hstep hpk hp HO HC3 c1
              go_wp2_with fail
              go_quiet (fail)
              go_wp2
              go_roundw
              case rel => exact ⟨j + 1, hj1, by simp, hBn.out nq⟩
              case measure => simp; omega
            · rw [decide_eq_false hpk] at hlss hls2 hls3
              have hjA : Hid (j = A) := by
                rcases hstep.out with ⟨q, _⟩ | ⟨_, q⟩
                · exact absurd q hpk
                · rw [hA.out] at q; exact q
              have cN : Hid (∀ q, (wr.drewN q).cell? ⟨g0, j * 2, none⟩ = some (.string ⟨p1.toArray⟩)) := fun q => by
                obtain ⟨g', e, d0, _⟩ := HO.out _ (hBn.out q) j _ hp
                cases e
                exact d0
              clear hstep hpk c1
              go_wp2_with fail
              go_quiet (fail)
              have y1 := YN.out nq
              have c2 := cN.out nq
              obtain ⟨nq1, rfl⟩ : ∃ nq1, nq1 = nq := ⟨_, rfl⟩
              by_cases hpe : p1 = k.data.toList
              · have heq : ((⟨p1.toArray⟩ : ByteArray).toList == k.toList) = true := by rw [Go.ByteArray.toList_eq, Go.ByteArray.toList_eq]; simpa using hpe
                have heq2 : (p1 == k.toList) = true := by rw [Go.ByteArray.toList_eq]; simpa using hpe
                have hsk : Hid (outP l (i + 1) = O) := by
                  have := outP_skip hc.out (.inr ⟨(p1, p2), by rw [hO.out]; exact List.mem_of_getElem? hp, by rw [hpe, hk.out]⟩)
                  rw [hO.out] at this; exact this
                clear hpe HO HC3 hp
                go_wp2_with fail
                go_quiet (fail)
                have hE2 : E = 0 ∨ E = 21 := by
                  rw [← hE.out, getE]
                  split
                  · exact .inl rfl
                  · exact .inr rfl
                rcases hE2 with rfl | rfl
                · clear hV hE
                  go_wp2
                  go_roundw
                  case rel => exact ⟨i + 1, by omega, by simp, _, _, _, rfl, HKs.out _ (hBn.out (nq1 + nq)) hsk.out⟩
                  case measure => simp; omega
                · clear hV hE
                  go_wp2
                  go_roundw
                  case rel => exact ⟨i + 1, by omega, by simp, _, _, _, rfl, HKs.out _ (hBn.out (nq1 + nq)) hsk.out⟩
                  case measure => simp; omega
              · have heq : ((⟨p1.toArray⟩ : ByteArray).toList == k.toList) = false := by rw [Go.ByteArray.toList_eq, Go.ByteArray.toList_eq]; exact beq_eq_false_iff_ne.2 hpe
                have heq2 : (p1 == k.toList) = false := by rw [Go.ByteArray.toList_eq]; exact beq_eq_false_iff_ne.2 hpe
                have hnt : Hid (¬ ∃ p ∈ outP l i, p.1 = c.k.data.toList) := fun q => by
                  rw [hO.out, hk.out] at q
                  obtain ⟨p, h1, h2⟩ := (ahead_there (by rw [← hO.out]; exact outP_rise l i) k.data.toList).2 q
                  rw [hA.out, ← hjA.out, hp] at h1
                  cases h1
                  exact hpe h2
                clear hpe HC3 hp
                go_wp2_with fail
                go_quiet (fail)
                cases hget : get (kvOf l) k.data.toList with
                | none =>
                  obtain rfl : E = 21 := by rw [← hE.out, getE, hget]; rfl
                  have hsk : Hid (outP l (i + 1) = O) := by
                    have := outP_skip hc.out (.inl (by rw [hk.out]; exact hget))
                    rw [hO.out] at this; exact this
                  clear hV hE hget
                  go_wp2
                  go_roundw
                  case rel => exact ⟨i + 1, by omega, by simp, _, _, _, rfl, HKs.out _ (hBn.out (nq1 + nq)) hsk.out⟩
                  case measure => simp; omega
                | some f =>
                  obtain rfl : E = 0 := by rw [← hE.out, getE, hget]; rfl
                  have hVf : Hid (V = strL f.bytes) := by show V = _; rw [← hV.out, getV, hget]
                  have hmo : Hid (outP l (i + 1) = O.take j ++ (k.data.toList, f.bytes) :: O.drop j) := by
                    have := outP_more hc.out (by rw [hk.out]; exact hget) hnt.out
                    rw [hO.out, hk.out, hA.out, ← hjA.out] at this; exact this
                  have RW : Hid ((wr.drewN (nq1 + nq)).ownsRow w.heap.size 103 2 (.slice (some ⟨g0, 0, none⟩) LO q1) O.length (cellsP O) ∧ Below w.heap.size w (wr.drewN (nq1 + nq))) := ⟨(Oth.ofBelow (hBn.out (nq1 + nq))).row hS3.out.1 (by decide) (by decide) (by decide) (by decide) (by decide), hS3.out.2.trans ((hBn.out (nq1 + nq)).mono hS3.out.2.size)⟩
                  have kk := YN.out (nq1 + nq)
                  obtain ⟨W, hW⟩ : ∃ W, wr.drewN (nq1 + nq) = W := ⟨_, rfl⟩
                  rw [hW] at RW kk
                  have hnn : (wr.drewN nq1).drewN nq = W := by rw [← hW]; simp [go_sem]
                  rw [hnn]
                  clear hnn hW hV hE hget hBn hBn2 YN hB HKs HO y0
                  obtain ⟨T1, T2, T3⟩ := ins_facts RW.out.1 hLO.out (show j ≤ LO by omega) 
                  have hjq : (j : Int) ≤ (q1 : Int) := by omega
                  have hjl2 : (j : Int) ≤ (LO : Int) := by omega
                  go_wp2_with (first
                    | (at_builtin; refine wpList_append_src rfl _ _ 39 rfl w.heap.size 103 i0 (.agg #[.string ⟨#[]⟩, .string ⟨#[]⟩]) 2 32 Tryz.underlying39 hi hz0 hz1 hz2 rfl (by decide) _ _ _ F5.out.1 rfl (cellsP (O.drop j)) _ _ _ rfl (ins_drop F5.out.2.1 hLO.out (show j ≤ LO by omega)).1 (ins_drop F5.out.2.1 hLO.out (show j ≤ LO by omega)).2.1 (ins_drop F5.out.2.1 hLO.out (show j ≤ LO by omega)).2.2 (by unfold maxLen; omega) (by omega) F5.out.2.2.size ?_; intro v6 w6 own6 grow6 loc6; obtain ⟨a6, c6, rfl⟩ := row_slice own6; have b6 := below_grown F5.out.2.2 grow6 F5.out.2.2.size F5.out.1)
                    | (at_builtin; refine wpList_append_src rfl _ _ 39 rfl w.heap.size 103 i0 (.agg #[.string ⟨#[]⟩, .string ⟨#[]⟩]) 2 32 Tryz.underlying39 hi hz0 hz1 hz2 rfl (by decide) _ _ _ (F4.out.1.alloc _) rfl [.string k, .string V] (some ⟨w4.heap.size, 0, none⟩) 1 1 rfl rfl (fun _ => ⟨_, rfl, new_pair w4 k V⟩) (by simp [Value.oneCell']) (by unfold maxLen; omega) (by omega) (by have := F4.out.2.2.1.size; simp; omega) ?_; intro v5 w5 own5 grow5 loc5; obtain ⟨a5, c5, rfl⟩ := row_slice own5; have F5 := ins_two F4.out own5 grow5)
                    | (at_builtin; refine wpList_append_src rfl _ _ 39 rfl w.heap.size 103 i0 (.agg #[.string ⟨#[]⟩, .string ⟨#[]⟩]) 2 32 Tryz.underlying39 hi hz0 hz1 hz2 rfl (by decide) _ 0 _ (World.ownsRow_nil _ _ _ _) rfl (cellsP (O.take j)) _ _ _ rfl T1 T2 T3 (by unfold maxLen; omega) (by omega) (by have := RW.out.2.size; exact this) ?_; intro v4 w4 own4 grow4 loc4; rw [Nat.zero_add, List.nil_append] at own4; obtain ⟨a4, c4, rfl⟩ := row_slice own4; have F4 := ins_one RW.out own4 grow4 loc4; have kk4 := HC.out w4 F4.out.2.2.1; clear own4 grow4 loc4 T2))
                  go_roundw
                  case rel => exact ⟨i + 1, by omega, by simp, _, _, _, rfl, (ins_end hmo.out hVf.out hLO.out (by omega) own6 (List.append_assoc _ _ _) (by omega)).1, (ins_end hmo.out hVf.out hLO.out (by omega) own6 (List.append_assoc _ _ _) (by omega)).2, b6⟩
                  case measure => simp; omega
          · obtain rfl : j = LO := by omega
            have hjA : Hid (j = A) := by show j = A; omega
            have g6 : decide ((j : Int) < (j : Int)) = false := decide_eq_false (by omega)
            have g8 : decide (j < j) = false := decide_eq_false (by omega)
            have hnt : Hid (¬ ∃ p ∈ outP l i, p.1 = c.k.data.toList) := fun q => by
              rw [hO.out, hk.out] at q
              obtain ⟨p, h1, h2⟩ := (ahead_there (by rw [← hO.out]; exact outP_rise l i) k.data.toList).2 q
              rw [hA.out, ← hjA.out] at h1
              have := (List.getElem?_eq_some_iff.1 h1).1
              have := hLO.out
              omega
            rcases Nat.eq_or_lt_of_le hcq with hq | hq
            · obtain rfl : q1 = j := hq.symm
              go_wp2_with fail
              go_quiet (fail)
              obtain ⟨nq1, rfl⟩ : ∃ nq1, nq1 = nq := ⟨_, rfl⟩
              clear HC3
              go_wp2_with fail
              go_quiet (fail)
              cases hget : get (kvOf l) k.data.toList with
              | none =>
                obtain rfl : E = 21 := by rw [← hE.out, getE, hget]; rfl
                have hsk : Hid (outP l (i + 1) = O) := by
                  have := outP_skip hc.out (.inl (by rw [hk.out]; exact hget))
                  rw [hO.out] at this; exact this
                clear hV hE hget
                go_wp2
                go_roundw
                case rel => exact ⟨i + 1, by omega, by simp, _, _, _, rfl, HKs.out _ (hBn.out (nq1 + nq)) hsk.out⟩
                case measure => simp; omega
              | some f =>
                obtain rfl : E = 0 := by rw [← hE.out, getE, hget]; rfl
                have hVf : Hid (V = strL f.bytes) := by show V = _; rw [← hV.out, getV, hget]
                have hmo : Hid (outP l (i + 1) = O.take q1 ++ (k.data.toList, f.bytes) :: O.drop q1) := by
                  have := outP_more hc.out (by rw [hk.out]; exact hget) hnt.out
                  rw [hO.out, hk.out, hA.out, ← hjA.out] at this; exact this
                have RW : Hid ((wr.drewN (nq1 + nq)).ownsRow w.heap.size 103 2 (.slice (some ⟨g0, 0, none⟩) q1 q1) O.length (cellsP O) ∧ Below w.heap.size w (wr.drewN (nq1 + nq))) := ⟨(Oth.ofBelow (hBn.out (nq1 + nq))).row hS3.out.1 (by decide) (by decide) (by decide) (by decide) (by decide), hS3.out.2.trans ((hBn.out (nq1 + nq)).mono hS3.out.2.size)⟩
                have kk := YN.out (nq1 + nq)
                obtain ⟨W, hW⟩ : ∃ W, wr.drewN (nq1 + nq) = W := ⟨_, rfl⟩
                rw [hW] at RW kk
                have hnn : (wr.drewN nq1).drewN nq = W := by rw [← hW]; simp [go_sem]
                rw [hnn]
                clear hnn hW hV hE hget hBn hBn2 YN hB HKs HO y0
                obtain ⟨T1, T2, T3⟩ := ins_facts RW.out.1 hLO.out (show q1 ≤ q1 by omega) 
                have hjq : (q1 : Int) ≤ (q1 : Int) := by omega
                have hjl2 : (q1 : Int) ≤ (q1 : Int) := by omega
                go_wp2_with (first
                  | (at_builtin; refine wpList_append_src rfl _ _ 39 rfl w.heap.size 103 i0 (.agg #[.string ⟨#[]⟩, .string ⟨#[]⟩]) 2 32 Tryz.underlying39 hi hz0 hz1 hz2 rfl (by decide) _ _ _ (F4.out.1.alloc _) rfl [.string k, .string V] (some ⟨w4.heap.size, 0, none⟩) 1 1 rfl rfl (fun _ => ⟨_, rfl, new_pair w4 k V⟩) (by simp [Value.oneCell']) (by unfold maxLen; omega) (by omega) (by have := F4.out.2.2.1.size; simp; omega) ?_; intro v5 w5 own5 grow5 loc5; obtain ⟨g5, c5, rfl⟩ := ownsRow_succ own5; have hc5 := own_cap own5; have F5 := ins_two F4.out own5 grow5)
                  | (at_builtin; refine wpList_append_src rfl _ _ 39 rfl w.heap.size 103 i0 (.agg #[.string ⟨#[]⟩, .string ⟨#[]⟩]) 2 32 Tryz.underlying39 hi hz0 hz1 hz2 rfl (by decide) _ 0 _ (World.ownsRow_nil _ _ _ _) rfl (cellsP (O.take q1)) _ _ _ rfl T1 T2 T3 (by unfold maxLen; omega) (by omega) (by have := RW.out.2.size; exact this) ?_; intro v4 w4 own4 grow4 loc4; rw [Nat.zero_add, List.nil_append] at own4; obtain ⟨a4, c4, rfl⟩ := row_slice own4; have F4 := ins_one RW.out own4 grow4 loc4; have kk4 := HC.out w4 F4.out.2.2.1; clear own4 grow4 loc4 T2))
                go_roundw
                case rel => exact ⟨i + 1, by omega, by simp, _, _, _, rfl, (ins_end hmo.out hVf.out hLO.out (Nat.le_refl _) F5.out.1 (by rw [List.drop_eq_nil_of_le (by have := hLO.out; omega)]; simp [cellsP]) (by omega)).1, (ins_end hmo.out hVf.out hLO.out (Nat.le_refl _) F5.out.1 (by rw [List.drop_eq_nil_of_le (by have := hLO.out; omega)]; simp [cellsP]) (by omega)).2, F5.out.2.2⟩
                case measure => simp; omega
            · have hq2 : (j : Int) < (q1 : Int) := by omega
              go_wp2_with fail
              go_quiet (fail)
              obtain ⟨nq1, rfl⟩ : ∃ nq1, nq1 = nq := ⟨_, rfl⟩
              clear HC3
              go_wp2_with fail
              go_quiet (fail)
              cases hget : get (kvOf l) k.data.toList with
              | none =>
                obtain rfl : E = 21 := by rw [← hE.out, getE, hget]; rfl
                have hsk : Hid (outP l (i + 1) = O) := by
                  have := outP_skip hc.out (.inl (by rw [hk.out]; exact hget))
                  rw [hO.out] at this; exact this
                clear hV hE hget
                go_wp2
                go_roundw
                case rel => exact ⟨i + 1, by omega, by simp, _, _, _, rfl, HKs.out _ (hBn.out (nq1 + nq)) hsk.out⟩
                case measure => simp; omega
              | some f =>
                obtain rfl : E = 0 := by rw [← hE.out, getE, hget]; rfl
                have hVf : Hid (V = strL f.bytes) := by show V = _; rw [← hV.out, getV, hget]
                have hmo : Hid (outP l (i + 1) = O.take j ++ (k.data.toList, f.bytes) :: O.drop j) := by
                  have := outP_more hc.out (by rw [hk.out]; exact hget) hnt.out
                  rw [hO.out, hk.out, hA.out, ← hjA.out] at this; exact this
                have RW : Hid ((wr.drewN (nq1 + nq)).ownsRow w.heap.size 103 2 (.slice (some ⟨g0, 0, none⟩) j q1) O.length (cellsP O) ∧ Below w.heap.size w (wr.drewN (nq1 + nq))) := ⟨(Oth.ofBelow (hBn.out (nq1 + nq))).row hS3.out.1 (by decide) (by decide) (by decide) (by decide) (by decide), hS3.out.2.trans ((hBn.out (nq1 + nq)).mono hS3.out.2.size)⟩
                have kk := YN.out (nq1 + nq)
                obtain ⟨W, hW⟩ : ∃ W, wr.drewN (nq1 + nq) = W := ⟨_, rfl⟩
                rw [hW] at RW kk
                have hnn : (wr.drewN nq1).drewN nq = W := by rw [← hW]; simp [go_sem]
                rw [hnn]
                clear hnn hW hV hE hget hBn hBn2 YN hB HKs HO y0
                obtain ⟨T1, T2, T3⟩ := ins_facts RW.out.1 hLO.out (show j ≤ j by omega) 
                have hjq : (j : Int) ≤ (q1 : Int) := by omega
                have hjl2 : (j : Int) ≤ (j : Int) := by omega
                go_wp2_with (first
                  | (at_builtin; refine wpList_append_src rfl _ _ 39 rfl w.heap.size 103 i0 (.agg #[.string ⟨#[]⟩, .string ⟨#[]⟩]) 2 32 Tryz.underlying39 hi hz0 hz1 hz2 rfl (by decide) _ _ _ (F4.out.1.alloc _) rfl [.string k, .string V] (some ⟨w4.heap.size, 0, none⟩) 1 1 rfl rfl (fun _ => ⟨_, rfl, new_pair w4 k V⟩) (by simp [Value.oneCell']) (by unfold maxLen; omega) (by omega) (by have := F4.out.2.2.1.size; simp; omega) ?_; intro v5 w5 own5 grow5 loc5; obtain ⟨g5, c5, rfl⟩ := ownsRow_succ own5; have hc5 := own_cap own5; have F5 := ins_two F4.out own5 grow5)
                  | (at_builtin; refine wpList_append_src rfl _ _ 39 rfl w.heap.size 103 i0 (.agg #[.string ⟨#[]⟩, .string ⟨#[]⟩]) 2 32 Tryz.underlying39 hi hz0 hz1 hz2 rfl (by decide) _ 0 _ (World.ownsRow_nil _ _ _ _) rfl (cellsP (O.take j)) _ _ _ rfl T1 T2 T3 (by unfold maxLen; omega) (by omega) (by have := RW.out.2.size; exact this) ?_; intro v4 w4 own4 grow4 loc4; rw [Nat.zero_add, List.nil_append] at own4; obtain ⟨a4, c4, rfl⟩ := row_slice own4; have F4 := ins_one RW.out own4 grow4 loc4; have kk4 := HC.out w4 F4.out.2.2.1; clear own4 grow4 loc4 T2))
                go_roundw
                case rel => exact ⟨i + 1, by omega, by simp, _, _, _, rfl, (ins_end hmo.out hVf.out hLO.out (Nat.le_refl _) F5.out.1 (by rw [List.drop_eq_nil_of_le (by have := hLO.out; omega)]; simp [cellsP]) (by omega)).1, (ins_end hmo.out hVf.out hLO.out (Nat.le_refl _) F5.out.1 (by rw [List.drop_eq_nil_of_le (by have := hLO.out; omega)]; simp [cellsP]) (by omega)).2, F5.out.2.2⟩
                case measure => simp; omega
    · obtain rfl : i = n := by omega
      go_wp2
      go_ret
      refine ⟨_, rfl, ?_, hS.out.2.2⟩
      have := hS.out.2.1
      rw [← hn.out, outP_all] at this
      rw [← hn.out]
      exact this
end Go.Proofs.YtfmmholkeadejaaGreatDoor
