/- The function of the statement TreeOrder answers true: two trees that were given the same keys and sums, whatever came and went between, tell the same. -/
import Derived.Test.YtbfadapffpijpaaDoorTrOrderP
import Derived.Test.YtbfadapffpijpaaDoorTrNil
import Derived.Deep.RegionHeld3
namespace Go.Proofs.YtbfadapffpijpaaDoor
open Go.RowKit Go.Maps Go.WideMaps
attribute [local go_sem ↓] rule_eql rule_neq rule_eqlD rule_neqD rule26

/-- A list of keys with sums in memory. -/
def SumsAt (w : World) (v : Value) (l : Ps) : Prop := (∀ p ∈ l, p.2.length = 32) ∧ ∃ a cap, v = .slice a l.length cap ∧ ∀ (i : Nat) (p : ByteArray × List UInt8), l[i]? = some p → ∃ g o, a = some ⟨g, o, none⟩ ∧ g < w.heap.size ∧ w.cell? ⟨g, o + i * 33, none⟩ = some (.string p.1) ∧ w.rangeAt g (o + i * 33 + 1) (p.2.map byteV)
def one9 : List UInt8 := 9 :: List.replicate 31 0
theorem built9 : Tryd.prog.built 26 [(0, .int .u8 9)] = some (one9.map byteV).toArray := by kernel_rfl
def wtO (l : List ByteArray) : Nat := (l.map fun x => x.size + 64).sum
theorem wtO_P (l : List ByteArray) (s : List UInt8) : wtP (l.map fun x => (x, s)) = wtO l := by unfold wtP wtO; rw [List.map_map]; rfl
theorem wtO_take (l : List ByteArray) (k : Nat) : wtO (l.take k) ≤ wtO l := by
  have : wtO l = wtO (l.take k) + wtO (l.drop k) := by
    unfold wtO
    rw [← List.sum_append, ← List.map_append, List.take_append_drop]
  omega
theorem wtO_mem {l : List ByteArray} {x : ByteArray} (h : x ∈ l) : x.size ≤ wtO l := by
  induction l with
  | nil => cases h
  | cons y l ih =>
    simp only [wtO, List.map_cons, List.sum_cons]
    rcases List.mem_cons.1 h with rfl | h
    · omega
    · have := ih h
      simp only [wtO] at this
      omega
theorem wtP_mem {l : Ps} {p : ByteArray × List UInt8} (h : p ∈ l) : p.1.size ≤ wtP l := by
  induction l with
  | nil => cases h
  | cons y l ih =>
    simp only [wtP, List.map_cons, List.sum_cons]
    rcases List.mem_cons.1 h with rfl | h
    · omega
    · have := ih h
      simp only [wtP] at this
      omega
/-- The keys the other way round, each with one sum. -/
def backP (l : Ps) : Ps := l.reverse.map fun p => (p.1, one1)
theorem wtP_back (l : Ps) : wtP (backP l) = wtP l := by
  unfold wtP backP
  rw [List.map_map]
  show ((l.reverse).map fun p => p.1.size + 64).sum = _
  rw [List.map_reverse, List.sum_reverse]
theorem backP_at (l : Ps) (k : Nat) (hk : k < l.length) (p : ByteArray × List UInt8) (hp : l[l.length - 1 - k]? = some p) : (backP l)[k]? = some (p.1, one1) := by
  unfold backP
  rw [List.getElem?_map, List.getElem?_reverse hk, hp]; rfl
theorem rootH_lv {A B : Tr} (h : A.lv = B.lv) : rootH A = rootH B := by unfold rootH allB allH; rw [h]
theorem level_lv {A B : Tr} (h : A.lv = B.lv) (l : List Int) : levelT A l = levelT B l := by
  unfold levelT partT allB allH
  rw [h]
theorem lenT_lv {A B : Tr} (h : A.lv = B.lv) : lenT A = lenT B := by unfold lenT; rw [h]
/-- One more key, put into the first tree. -/
theorem Duo.more {w0 W : World} {n a b : Nat} {T B : Tr} {l : Ps} {k m : Nat} {p : ByteArray × List UInt8} (h : Duo w0 n W a b (putAll T (l.take k)) B) (hg : Good T m) (h32 : ∀ p ∈ l, p.2.length = 32) (hm : m + wtP l ≤ 536870912) (hp : l[k]? = some p) :
    Calls Tryd.prog 7 #[.pointer (some ⟨a, 0, none⟩), .string p.1, .agg (p.2.map byteV).toArray] W fun e w' => e = .returned (.tuple #[]) ∧ Duo w0 n w' a b (putAll T (l.take (k + 1))) B := by
  have hmem := List.mem_of_getElem? hp
  have hw := wtP_mem hmem
  have ht := wtP_take l k
  refine (h.put ((hg.putAll (l.take k) (fun q hq => h32 q (List.mem_of_mem_take hq))).fit.mono (by omega)) p.1 (by omega) p.2 (h32 p hmem)).mono ?_
  rintro e w' ⟨e1, e2, _⟩
  rw [putAll_take T l k p hp]
  exact ⟨e1, e2⟩
theorem order_sizes (l : Ps) (os : List ByteArray) (ln lo : Nat) (hln : l.length = ln) (hlo : os.length = lo) (h3 : wtP l ≤ 100000000) (h4 : wtO os ≤ 100000000) : lo ≤ 100000000 ∧ ln ≤ 100000000 := by
  have h1 : ∀ l : List ByteArray, l.length ≤ wtO l := fun l => by
    unfold wtO
    induction l with
    | nil => simp
    | cons x l ih => simp only [List.map_cons, List.sum_cons, List.length_cons]; omega
  have h2 : ∀ l : Ps, l.length ≤ wtP l := fun l => by
    unfold wtP
    induction l with
    | nil => simp
    | cons x l ih => simp only [List.map_cons, List.sum_cons, List.length_cons]; omega
  have q1 := h1 os
  have q2 := h2 l
  omega
end Go.Proofs.YtbfadapffpijpaaDoor
