/- QuorumStays, in plain words: of each node its first answer counts. -/
import Derived.Test.YtmhpfncbbboamaaGreatQmPure
namespace Go.Proofs.YtmhpfncbbboamaaGreat

/-- An answer: its kind, its node, and what it has besides. -/
structure Opq where
  kind : Int
  node : Int
  c2 : Value
  c3 : Value
  c4 : Value
  c5 : Value
instance : Inhabited Opq := ⟨⟨0, 0, .int .i64 0, .slice none 0 0, .slice none 0 0, .slice none 0 0⟩⟩
def ansK (k : Int) : Nat := if k.tmod 2 = 0 then 1 else 2
theorem ansK_12 (k : Int) : ansK k = 1 ∨ ansK k = 2 := by unfold ansK; split <;> simp
def sayO (l : Ses) (o : Opq) : Ses := sayS (ansK o.kind) l o.node
def runO (os : List Opq) (l : Ses) : Ses := os.foldl sayO l
def hasO (F : List Opq) (x : Int) : Bool := F.any fun o => decide (o.node = x)
def stepF (F : List Opq) (o : Opq) : List Opq := if hasO F o.node then F else F ++ [o]
def firsts (os : List Opq) : List Opq := os.foldl stepF []
theorem runO_snoc (os : List Opq) (o : Opq) (l : Ses) : runO (os ++ [o]) l = sayO (runO os l) o := by simp [runO, List.foldl_append]
theorem firsts_snoc (os : List Opq) (o : Opq) : firsts (os ++ [o]) = stepF (firsts os) o := by simp [firsts, List.foldl_append]
theorem runO_once {l : Ses} (h : Once l) (os : List Opq) : Once (runO os l) := by
  unfold runO
  induction os generalizing l with
  | nil => exact h
  | cons o os ih => exact ih (h.say _ _)
/-! Seat by seat. -/
def seatO (s : Se) (o : Opq) : Se := if opens o.node s then (s.1, s.2.1, ansK o.kind) else s
theorem runO_map (os : List Opq) (l : Ses) : runO os l = l.map fun s => os.foldl seatO s := by
  unfold runO
  induction os generalizing l with
  | nil => simp
  | cons o os ih =>
    rw [List.foldl_cons, ih]
    unfold sayO sayS
    rw [List.map_map]
    rfl
def isN (x : Int) (o : Opq) : Bool := decide (o.node = x)
theorem seat_said (os : List Opq) (s : Se) (h : s.2.2 ≠ 0) : os.foldl seatO s = s := by
  induction os with
  | nil => rfl
  | cons o os ih =>
    rw [List.foldl_cons]
    have : seatO s o = s := by
      unfold seatO opens
      have : (s.2.2 == 0) = false := by simpa using h
      simp [this]
    rw [this]; exact ih
theorem seat_find (os : List Opq) (x f : Int) : os.foldl seatO (x, f, 0) = match os.find? (isN x) with
    | some o => (x, f, ansK o.kind)
    | none => (x, f, 0) := by
  induction os with
  | nil => rfl
  | cons o os ih =>
    rw [List.foldl_cons, List.find?_cons]
    by_cases h : o.node = x
    · have h1 : isN x o = true := by simp [isN, h]
      have h2 : seatO (x, f, 0) o = (x, f, ansK o.kind) := by unfold seatO opens; simp [h]
      rw [h1, h2, seat_said os _ (by have := ansK_12 o.kind; show ansK o.kind ≠ 0; omega)]
    · have h1 : isN x o = false := by simp [isN, h]
      have h2 : seatO (x, f, 0) o = (x, f, 0) := by
        unfold seatO opens
        have : ¬ x = o.node := fun e => h e.symm
        simp [this]
      rw [h1, h2, ih]
theorem step_find (F : List Opq) (o : Opq) (x : Int) : (stepF F o).find? (isN x) = (F.find? (isN x)).or ([o].find? (isN x)) := by
  unfold stepF
  split
  · rename_i h
    by_cases e : o.node = x
    · subst e
      obtain ⟨a, ha, hq⟩ := List.any_eq_true.1 h
      have : (F.find? (isN o.node)).isSome = true := List.find?_isSome.2 ⟨a, ha, hq⟩
      obtain ⟨b, hb⟩ := Option.isSome_iff_exists.1 this
      rw [hb]; rfl
    · have : ([o].find? (isN x)) = none := by simp [isN, e]
      rw [this]; simp
  · rw [List.find?_append]
theorem firsts_find (os : List Opq) (x : Int) : (firsts os).find? (isN x) = os.find? (isN x) := by
  suffices h : ∀ F, ((os.foldl stepF F).find? (isN x)) = (F.find? (isN x)).or (os.find? (isN x)) by
    have := h []
    simpa [firsts] using this
  induction os with
  | nil => intro F; simp
  | cons o os ih =>
    intro F
    rw [List.foldl_cons, ih, step_find, Option.or_assoc]
    congr 1
    rw [show o :: os = [o] ++ os from rfl, List.find?_append]
theorem firsts_nodup (os : List Opq) : ((firsts os).map (·.node)).Nodup := by
  suffices h : ∀ F : List Opq, (F.map (·.node)).Nodup → ((os.foldl stepF F).map (·.node)).Nodup from h [] List.nodup_nil
  induction os with
  | nil => exact fun F h => h
  | cons o os ih =>
    intro F h
    refine ih _ ?_
    unfold stepF
    split
    · exact h
    · rename_i hn
      rw [List.map_append]
      refine List.nodup_append.2 ⟨h, by simp, fun a ha b hb => ?_⟩
      simp at hb
      subst hb
      intro e
      subst e
      obtain ⟨c, hc, e⟩ := List.mem_map.1 ha
      exact hn (List.any_eq_true.2 ⟨c, hc, by simpa using e⟩)
theorem find_rev {F : List Opq} (h : (F.map (·.node)).Nodup) (x : Int) : F.reverse.find? (isN x) = F.find? (isN x) := by
  cases hq : F.find? (isN x) with
  | none =>
    rw [List.find?_eq_none] at hq ⊢
    intro a ha
    exact hq a (by simpa using ha)
  | some a =>
    have ha := List.mem_of_find?_eq_some hq
    have hqa := List.find?_some hq
    have : (F.reverse.find? (isN x)).isSome = true := List.find?_isSome.2 ⟨a, by simpa using ha, hqa⟩
    obtain ⟨b, hb⟩ := Option.isSome_iff_exists.1 this
    rw [hb]
    have hbm : b ∈ F := by simpa using List.mem_of_find?_eq_some hb
    have hqb := List.find?_some hb
    have e : a.node = b.node := by simp [isN] at hqa hqb; omega
    obtain ⟨i, hi⟩ := List.mem_iff_getElem?.1 ha
    obtain ⟨j, hj⟩ := List.mem_iff_getElem?.1 hbm
    have hil := (List.getElem?_eq_some_iff.1 hi).1
    have h1 : (F.map (·.node))[i]? = some a.node := by rw [List.getElem?_map, hi]; rfl
    have h2 : (F.map (·.node))[j]? = some a.node := by rw [List.getElem?_map, hj, e]; rfl
    have := (List.getElem?_inj (by simpa using hil) h).1 (h1.trans h2.symm)
    subst this
    rw [hi] at hj
    exact hj.symm
/-- The first answers, from their end on, leave what all answers leave. -/
theorem run_firsts (os : List Opq) {ts : List (Int × Int)} : runO (firsts os).reverse (seats ts) = runO os (seats ts) := by
  rw [runO_map, runO_map]
  apply List.map_congr_left
  intro s _
  obtain ⟨x, f, k⟩ := s
  by_cases hk : k = 0
  · subst hk
    rw [seat_find, seat_find, find_rev (firsts_nodup os), firsts_find]
  · rw [seat_said _ _ hk, seat_said _ _ hk]
end Go.Proofs.YtmhpfncbbboamaaGreat
