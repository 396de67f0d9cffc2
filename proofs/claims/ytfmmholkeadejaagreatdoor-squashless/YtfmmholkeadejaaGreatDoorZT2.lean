/- SqCat, SqShedP, SqGoP, SqGoA, SqBytes, SqRest, SqLessP, SqLessQ. -/
import Derived.Test.YtfmmholkeadejaaGreatDoorZSqPure
import Derived.Test.YtfmmholkeadejaaGreatDoorZT1
import Derived.Test.YtfmmholkeadejaaGreatDoorZS3
import Derived.Test.YtfmmholkeadejaaGreatDoorZCkLast
/- What renew with many parts, and Remove of many names, come to: without memory. -/
namespace Go.Proofs.YtfmmholkeadejaaGreatDoor

/-- The parts as one. -/
def catB (rs : List ByteArray) : ByteArray := ⟨(joins rs).toArray⟩
theorem joins_lens : ∀ rs : List ByteArray, (joins rs).length = lens rs
  | [] => rfl
  | r :: t => by
    have := joins_lens t
    show (r.data.toList ++ joins t).length = r.size + lens t
    rw [List.length_append, this]
    rfl
theorem catB_list (rs : List ByteArray) : (catB rs).data.toList = joins rs := rfl
theorem catB_size (rs : List ByteArray) : (catB rs).size = lens rs := by
  rw [← joins_lens]
  show (joins rs).toArray.size = _
  simp
theorem lays_cat (S : Dk) (C : ByteArray) (rs : List ByteArray) : laysE S rs = laysE S [catB rs] ∧ laysT S C rs = laysT S C [catB rs] := by
  have e1 : lens [catB rs] = lens rs := by show (catB rs).size + 0 = _; rw [catB_size]; omega
  have e2 : joins [catB rs] = joins rs := by show (catB rs).data.toList ++ [] = _; rw [List.append_nil, catB_list]
  unfold laysE laysT fitB layS
  rw [e1, e2]
  exact ⟨rfl, rfl⟩
theorem rn_cat (S : Dk) (F : ByteArray) (rs : List ByteArray) : rnE S F rs = rnE S F [catB rs] ∧ rnS S F rs = rnS S F [catB rs] := by
  obtain ⟨h1, h2⟩ := lays_cat (rn1 S F) (comB F) rs
  unfold rnE rnS rnB rnC rnD rn4 rn3 rn2
  rw [h1, h2]
  exact ⟨rfl, rfl⟩
theorem rn_all {S : Dk} (hon : S.on = true) (hr : Rising S.fs) (F : ByteArray) (rs : List ByteArray) (hF : nameOk F = true) (hC : nameOk (comB F) = true) (hne : (comB F).data.toList ≠ F.data.toList) : RnOut S F (catB rs) (rnE S F rs) (rnS S F rs) := by
  rw [(rn_cat S F rs).1, (rn_cat S F rs).2]
  exact rn_out hon hr F (catB rs) hF hC hne
abbrev keyL (s : ByteArray) : List UInt8 := s.data.toList
/-- What Remove of names that are there comes to: all go, or the power goes behind some. -/
theorem rm_out : ∀ (l : List ByteArray) (S : Dk), S.on = true → Rising S.fs → (∀ s ∈ l, nameOk s = true ∧ (get S.fs (keyL s)).isSome = true) → (l.map keyL).Nodup →
    ∃ j, j ≤ l.length ∧ (∀ k, get (rmAll S l).2.fs k = if k ∈ (l.take j).map keyL then none else get S.fs k) ∧ Kept S (rmAll S l).2 (rmAll S l).1 ∧ Rising (rmAll S l).2.fs ∧ (((rmAll S l).1 = 0 ∧ (rmAll S l).2.on = true ∧ j = l.length) ∨ ((rmAll S l).1 = 23 ∧ (rmAll S l).2.on = false))
  | [], S, hon, hr, _, _ => ⟨0, Nat.le_refl _, fun k => by simp [rmAll], ⟨rfl, fun h => ⟨h, by simp [rmAll]⟩⟩, hr, .inl ⟨rfl, hon, rfl⟩⟩
  | s :: r, S, hon, hr, hf, hd => by
    obtain ⟨ok, hs⟩ := hf s (by simp)
    have hfd : foundE S s = 0 := by
      unfold foundE
      rw [if_pos hon, if_pos ok]
      cases hg : get S.fs s.data.toList with
      | none => rw [show get S.fs (keyL s) = get S.fs s.data.toList from rfl, hg] at hs; cases hs
      | some f => rfl
    rw [List.map_cons, List.nodup_cons] at hd
    rcases step_two S with ⟨h1, h2⟩ | ⟨h1, h2⟩
    · have e : rmAll S (s :: r) = rmAll (dropS (stepS S) s.data.toList) r := by rw [rmAll, if_pos hfd, if_pos h1]
      rw [e]
      have hg1 : ∀ k, get (dropS (stepS S) s.data.toList).fs k = if k = s.data.toList then none else get S.fs k := fun k => by
        unfold dropS
        simp only [stepS_fs]
        rw [get_del hr]
      obtain ⟨j, q1, q2, q3, q4, q5⟩ := rm_out r (dropS (stepS S) s.data.toList) (h2.trans hon) (by unfold dropS; simp only [stepS_fs]; exact hr.del _) (fun t ht => by
        obtain ⟨o1, o2⟩ := hf t (by simp [ht])
        refine ⟨o1, ?_⟩
        rw [hg1, if_neg (fun e => hd.1 (by rw [← show keyL t = keyL s from e]; exact List.mem_map_of_mem ht))]
        exact o2) hd.2
      refine ⟨j + 1, by simp; omega, fun k => ?_, ⟨q3.room.trans (stepS_room S), fun h => q3.calm (stepS_armed S h).1⟩, q4, ?_⟩
      · rw [q2, hg1, List.take_succ_cons, List.map_cons]
        by_cases e1 : k ∈ (r.take j).map keyL
        · rw [if_pos e1, if_pos (List.mem_cons_of_mem _ e1)]
        · rw [if_neg e1]
          by_cases e2 : k = s.data.toList
          · rw [if_pos e2, if_pos (by rw [e2]; exact List.mem_cons_self)]
          · rw [if_neg e2, if_neg (fun h => (List.mem_cons.1 h).elim e2 e1)]
      · rcases q5 with ⟨a, b, c⟩ | ⟨a, b⟩
        · exact .inl ⟨a, b, by rw [c]; rfl⟩
        · exact .inr ⟨a, b⟩
    · have e : rmAll S (s :: r) = (stepE S, stepS S) := by rw [rmAll, if_pos hfd, if_neg (by rw [h1]; decide)]
      rw [e]
      refine ⟨0, Nat.zero_le _, fun k => by simp [stepS_fs], step_kept S S rfl rfl, by simp only [stepS_fs]; exact hr, .inr ⟨h1, h2⟩⟩
end Go.Proofs.YtfmmholkeadejaaGreatDoor

/- What the squashed segment says: without memory. -/
namespace Go.Proofs.YtfmmholkeadejaaGreatDoor
open Go.Lib

theorem compact_mem {zs : List (List UInt8)} {x : List UInt8} (h : x ∈ compact zs) : x ∈ zs := by
  unfold compact compactUpTo at h
  obtain ⟨i, hi, rfl⟩ := List.mem_map.1 h
  have hi' : i < zs.length := List.mem_range.1 (List.mem_filter.1 hi).1
  rw [getElem!_pos zs.toArray i (by simpa using hi')]
  simp
theorem mem_spk {ks : List ByteArray} {k : ByteArray} (h : k ∈ spk ks) : k ∈ ks := by
  obtain ⟨x, hx, rfl⟩ := List.mem_map.1 h
  have h1 := (List.mem_mergeSort).1 (compact_mem hx)
  obtain ⟨k, hk, e⟩ := List.mem_map.1 h1
  have : (⟨x.toArray⟩ : ByteArray) = k := by
    have e2 : k.data.toList.toArray = k.data := by simp
    cases k with
    | mk d => simp at e e2; subst e; simp
  rw [this]; exact hk
theorem spk_len (ks : List ByteArray) : (spk ks).length ≤ ks.length := by
  unfold spk compact compactUpTo
  rw [List.length_map, List.length_map]
  refine Nat.le_trans (List.length_filter_le _ _) ?_
  simp
/-- The changes that the squashed segment says. -/
def shedCh (K : Ck) (os : List Sg) : List Ch := (kvL K.kv).map (fun p => ⟨strL p.1, strL p.2, false⟩) ++ (goneK K.kv (spk (keysOf os))).map (fun k => ⟨k, ⟨#[]⟩, true⟩)
theorem flat_congr {α : Type} {f g : α → List UInt8} : ∀ {l : List α}, (∀ a ∈ l, f a = g a) → l.flatMap f = l.flatMap g
  | [], _ => rfl
  | a :: r, h => by rw [List.flatMap_cons, List.flatMap_cons, h a (by simp), flat_congr (fun x hx => h x (by simp [hx]))]
theorem shed_bytes {K : Ck} {os : List Sg} (h1 : ∀ p ∈ kvL K.kv, cfE (strL p.1) (strL p.2) = 0) (h2 : ∀ k ∈ spk (keysOf os), cfE k ⟨#[]⟩ = 0) : (catB (shedR K os)).data.toList = (shedCh K os).flatMap chB := by
  rw [catB_list]
  unfold joins shedR shedCh recsP recsD
  rw [List.flatMap_append, List.flatMap_append, List.flatMap_map, List.flatMap_map, List.flatMap_map, List.flatMap_map]
  congr 1
  · refine flat_congr fun p hp => ?_
    unfold recP recV
    rw [if_pos (h1 p hp)]
    rfl
  · refine flat_congr fun k hk => ?_
    unfold recV
    rw [if_pos (h2 k (List.mem_filter.1 hk).1)]
    rfl
theorem shed_len (K : Ck) (os : List Sg) : (shedCh K os).length = (shedR K os).length := by
  unfold shedCh shedR recsP recsD
  simp
theorem shed_ok {K : Ck} {os : List Sg} (h1 : ∀ p ∈ kvL K.kv, cfE (strL p.1) (strL p.2) = 0) (h2 : ∀ k ∈ spk (keysOf os), cfE k ⟨#[]⟩ = 0) : ∀ c ∈ shedCh K os, c.Ok := fun c hc => by
  rcases List.mem_append.1 hc with hc | hc
  · obtain ⟨p, hp, rfl⟩ := List.mem_map.1 hc
    exact h1 p hp
  · obtain ⟨k, hk, rfl⟩ := List.mem_map.1 hc
    exact h2 k (List.mem_filter.1 hk).1
theorem put_end {k : List UInt8} {f : Fl} : ∀ {l : Fs}, (∀ p ∈ l, p.1 < k) → put k f l = l ++ [(k, f)]
  | [], _ => rfl
  | p :: r, h => by
    have h1 := h p (by simp)
    have n1 : k ≠ p.1 := fun e => by rw [e] at h1; exact absurd h1 (List.lt_irrefl _)
    have n2 : ¬ k < p.1 := fun e => absurd (List.lt_trans e h1) (List.lt_irrefl _)
    rw [put, if_neg n1, if_neg n2, put_end (fun q hq => h q (by simp [hq]))]
    rfl
theorem puts_all : ∀ (l : Fs) (pre : Fs), Rising (pre ++ l) → (∀ p ∈ l, p.2.firm = 0) → ((kvL l).map fun p => (⟨strL p.1, strL p.2, false⟩ : Ch)).foldl (fun kv c => takeF c kv) pre = pre ++ l
  | [], pre, _, _ => by simp [kvL]
  | p :: r, pre, hr, hf => by
    have hlt : ∀ q ∈ pre, q.1 < p.1 := fun q hq => (List.pairwise_append.1 hr).2.2 q hq p (by simp)
    have e1 : takeF (⟨strL p.1, strL p.2.bytes, false⟩ : Ch) pre = pre ++ [p] := by
      unfold takeF
      rw [if_neg (by simp)]
      show put p.1 ⟨p.2.bytes, 0⟩ pre = _
      rw [put_end hlt]
      have := hf p (by simp)
      obtain ⟨k, b, n⟩ := p
      simp at this
      subst this
      rfl
    have ih := puts_all r (pre ++ [p]) (by rw [List.append_assoc]; exact hr) (fun q hq => hf q (by simp [hq]))
    rw [List.append_assoc] at ih
    rw [← show pre ++ ([p] ++ r) = pre ++ (p :: r) from rfl, ← ih, ← e1]
    rfl
theorem del_none : ∀ {l : Fs} {k : List UInt8}, get l k = none → del k l = l
  | [], _, _ => rfl
  | p :: r, k, h => by
    rw [get] at h
    split at h
    · cases h
    · rename_i hn
      rw [del, if_neg hn, del_none h]
theorem dels_none (kv : Fs) : ∀ ks : List ByteArray, (∀ k ∈ ks, get kv k.data.toList = none) → (ks.map fun k => (⟨k, ⟨#[]⟩, true⟩ : Ch)).foldl (fun kv c => takeF c kv) kv = kv
  | [], _ => rfl
  | k :: r, h => by
    have e : takeF (⟨k, ⟨#[]⟩, true⟩ : Ch) kv = kv := by
      unfold takeF
      rw [if_pos rfl]
      exact del_none (h k (by simp))
    rw [List.map_cons, List.foldl_cons, e]
    exact dels_none kv r (fun x hx => h x (by simp [hx]))
/-- The squashed segment says the same. -/
theorem shed_kv {K : Ck} {os : List Sg} (hr : Rising K.kv) (hf : ∀ p ∈ K.kv, p.2.firm = 0) : kvOf (shedCh K os) = K.kv := by
  unfold kvOf shedCh
  rw [List.foldl_append, puts_all K.kv [] hr hf, List.nil_append]
  refine dels_none K.kv _ fun k hk => ?_
  have := (List.mem_filter.1 hk).2
  simpa using this
end Go.Proofs.YtfmmholkeadejaaGreatDoor

/- Small facts for a squash of whatever cask: without memory. -/
namespace Go.Proofs.YtfmmholkeadejaaGreatDoor

theorem comB_ok {s : ByteArray} (h : capOk s = true) (n : Nat) : nameOk (comB (fileB s n)) = true := by
  have h0 := fileB_ok h n
  have hz := (capOk_le h).2.1
  have hl : (comB (fileB s n)).data.toList = (fileB s n).data.toList ++ [46, 110, 101, 119] := by simp [comB]
  have hs : (comB (fileB s n)).size = s.size + 11 := by
    show (comB (fileB s n)).data.size = _
    rw [← Array.length_toList, hl, List.length_append, fileB_list, List.length_append]
    show s.data.toList.length + 7 + 4 = s.data.size + 11
    rw [Array.length_toList]
  simp only [nameOk, Bool.and_eq_true, decide_eq_true_eq] at h0 ⊢
  refine ⟨⟨by omega, by omega⟩, ?_⟩
  rw [hl, List.all_append, h0.2]
  decide
theorem comB_ne (F : ByteArray) : (comB F).data.toList ≠ F.data.toList := fun e => by
  have : (comB F).data.toList.length = F.data.toList.length + 4 := by simp [comB]
  rw [e] at this
  omega
theorem csK_nm (S : Dk) (K : Ck) : (csK S K).nm = K.nm := by
  unfold csK
  split <;> rfl
/-- What a key has came by a change. -/
theorem kvOf_val {k : List UInt8} (chs : List Ch) : ∀ f, get (kvOf chs) k = some f → ∃ c ∈ chs, c.k.data.toList = k ∧ c.v.data.toList = f.bytes := by
  suffices H : ∀ l : List Ch, (∀ f, get (kvOf l.reverse) k = some f → ∃ c ∈ l.reverse, c.k.data.toList = k ∧ c.v.data.toList = f.bytes) by
    have := H chs.reverse
    rwa [List.reverse_reverse] at this
  intro l
  induction l with
  | nil => intro f h; cases h
  | cons c l ih =>
    intro f h
    rw [List.reverse_cons, kvOf_snoc, get_take (kvOf_rise _)] at h
    split at h
    · rename_i e
      split at h
      · cases h
      · cases h
        exact ⟨c, by simp, e.symm, rfl⟩
    · obtain ⟨c', hc', e⟩ := ih f h
      exact ⟨c', by simp at hc' ⊢; exact .inl hc', e⟩
theorem strL_data (b : ByteArray) : strL b.data.toList = b := by
  unfold strL
  cases b
  simp
theorem pairs_ok {chs : List Ch} (hok : ∀ c ∈ chs, c.Ok) : ∀ p ∈ kvL (kvOf chs), cfE (strL p.1) (strL p.2) = 0 := fun p hp => by
  obtain ⟨q, hq, rfl⟩ := List.mem_map.1 hp
  obtain ⟨c, hc, e1, e2⟩ := kvOf_val chs q.2 (mem_get (kvOf_rise chs) hq)
  show cfE (strL q.1) (strL q.2.bytes) = 0
  rw [← e1, ← e2, strL_data, strL_data]
  exact hok c hc
theorem keys_ok {os : List Sg} (hok : ∀ x ∈ os, ∀ c ∈ x.cs, c.Ok) : ∀ k ∈ spk (keysOf os), cfE k ⟨#[]⟩ = 0 := fun k hk => by
  obtain ⟨c, hc, rfl⟩ := List.mem_map.1 (mem_spk hk)
  obtain ⟨x, hx, hc⟩ := List.mem_flatMap.1 hc
  exact cfE_key (hok x hx c hc)
theorem put_len (k : List UInt8) (f : Fl) : ∀ l : Fs, (put k f l).length ≤ l.length + 1
  | [] => by simp [put]
  | p :: r => by
    have := put_len k f r
    unfold put
    split
    · simp
    · split
      · simp
      · simp; omega
theorem take_len (c : Ch) (kv : Fs) : (takeF c kv).length ≤ kv.length + 1 := by
  unfold takeF
  split
  · have := (del_sub c.k.data.toList kv).length_le
    omega
  · exact put_len _ _ _
theorem kvOf_len (chs : List Ch) : (kvOf chs).length ≤ chs.length := by
  have : ∀ (l : List Ch) (kv : Fs), (l.foldl (fun kv c => takeF c kv) kv).length ≤ kv.length + l.length := fun l => by
    induction l with
    | nil => intro kv; simp
    | cons c l ih =>
      intro kv
      have h1 := ih (takeF c kv)
      have h2 := take_len c kv
      simp only [List.foldl_cons, List.length_cons]
      omega
  have := this chs []
  unfold kvOf
  simpa using this
theorem rec_big {c : Ch} (h : c.Ok) : (recV c.k c.v c.dead).size ≤ 140737488355328 := by
  have := chR_size c h
  unfold recV
  rw [if_pos (show cfE c.k c.v = 0 from h)]
  have e : chR c = Pk.strL (recL c.k c.v c.dead) := rfl
  rw [← e]
  omega
theorem shed_sizes {K : Ck} {os : List Sg} (h1 : ∀ p ∈ kvL K.kv, cfE (strL p.1) (strL p.2) = 0) (h2 : ∀ k ∈ spk (keysOf os), cfE k ⟨#[]⟩ = 0) : ∀ r ∈ shedR K os, r.size ≤ 140737488355328 := fun r hr => by
  rcases List.mem_append.1 hr with hr | hr
  · obtain ⟨p, hp, rfl⟩ := List.mem_map.1 hr
    exact rec_small p (h1 p hp)
  · obtain ⟨k, hk, rfl⟩ := List.mem_map.1 hr
    exact rec_big (c := ⟨k, ⟨#[]⟩, true⟩) (h2 k (List.mem_filter.1 hk).1)
theorem ren_gone {S : Dk} (hr : Rising S.fs) (C F : ByteArray) (hne : C.data.toList ≠ F.data.toList) (h : renE S C F = 0) : get (renS S C F).fs C.data.toList = none := by
  unfold renE at h
  unfold renS
  split at h
  · rename_i hn
    rw [if_pos hn]
    unfold eachE at h
    unfold eachS
    split at h
    · rename_i hf
      rw [if_pos hf, if_pos h]
      unfold moveS
      simp only [stepS_fs, get_put]
      rw [if_neg hne, get_del hr, if_pos rfl]
    · rename_i hf
      exact absurd h hf
  · rename_i hn
    exact absurd h hn
/-- Behind a renew that goes through nothing is left on its way. -/
theorem rn_gone {S : Dk} (hr : Rising S.fs) (F : ByteArray) (rs : List ByteArray) (h : rnE S F rs = 0) : get (rnS S F rs).fs (comB F).data.toList = none := by
  rw [(rn_cat S F rs).1] at h
  rw [(rn_cat S F rs).2]
  unfold rnE sq4E at h
  unfold rnS
  split at h
  · rename_i hA; exact absurd h hA
  · rename_i hA
    rw [if_neg hA]
    split at h
    · rename_i hB; exact absurd h hB
    · rename_i hB
      rw [if_neg hB]
      split at h
      · rename_i hC; exact absurd h hC
      · rename_i hC
        rw [if_neg hC]
        have hr1 : Rising (rn1 S F).fs := rising_delS hr _
        have hr2 : Rising (rn2 S F [catB rs]).fs := (lay_sized hr1 (comB F) (catB rs)).rise
        have hr3 : Rising (rn3 S F [catB rs]).fs := (set_sized hr2 (comB F)).2.2.2
        exact ren_gone hr3 (comB F) F (comB_ne F) h
end Go.Proofs.YtfmmholkeadejaaGreatDoor

/- A squash of whatever cask goes through, while the power stays and there is room: without memory. -/
namespace Go.Proofs.YtfmmholkeadejaaGreatDoor

theorem ren_rise {S : Dk} (hr : Rising S.fs) (C F : ByteArray) : Rising (renS S C F).fs := by
  unfold renS
  split
  · unfold eachS
    split
    · split
      · unfold moveS
        simp only [stepS_fs]
        exact (hr.del _).put _ _
      · rw [stepS_fs]; exact hr
    · exact hr
  · exact hr
theorem rn_rise {S : Dk} (hr : Rising S.fs) (F : ByteArray) (rs : List ByteArray) : Rising (rnS S F rs).fs := by
  rw [(rn_cat S F rs).2]
  have hr1 : Rising (rn1 S F).fs := rising_delS hr _
  have hr2 : Rising (rn2 S F [catB rs]).fs := (lay_sized hr1 (comB F) (catB rs)).rise
  have hr3 : Rising (rn3 S F [catB rs]).fs := (set_sized hr2 (comB F)).2.2.2
  unfold rnS
  split
  · exact hr1
  · split
    · exact hr2
    · split
      · exact hr3
      · exact ren_rise hr3 _ _
theorem get_used {l : Fs} {k : List UInt8} {f : Fl} (h : get l k = some f) : f.bytes.length ≤ used l := by
  have h1 := used_del l k
  rw [lenAt_some h] at h1
  omega
theorem file_not_com (nm : ByteArray) (n m : Nat) : (fileB nm n).data.toList ≠ (comB (fileB nm m)).data.toList := fun e => by
  have h1 : (comB (fileB nm m)).data.toList.length = (fileB nm m).data.toList.length + 4 := by simp [comB]
  rw [← e, fileB_list, fileB_list, List.length_append, List.length_append] at h1
  have h2 : (46 :: six n).length = 7 := rfl
  have h3 : (46 :: six m).length = 7 := rfl
  omega
set_option maxRecDepth 10000 in
theorem sq_go {S : Dk} {K : Ck} {os : List Sg} {x : Sg} (hg : Good S K (os ++ [x])) (hc : Calm S) (hf : K.Fine) (hr : Rising S.fs) (hlen : S.fs.length < 256) (hm : ((os ++ [x]).flatMap Sg.cs).length ≤ 1000) (hL : os.length ≤ 255) (hdead : os ≠ [] ∨ K.recs - (K.kv.length : Int) ≠ 0) (hu : used S.fs ≤ 16777216) (hroom : used S.fs + lens (shedR (csK S K) os) ≤ S.room) :
    SqAll S K os x.n [⟨x.n, shedCh (csK S K) os, []⟩] ∧ Rising (sqS3 S K os x.n).fs ∧ Calm (sqS3 S K os x.n) ∧ (∀ k, ¬ Mine K.nm k → bts (sqS3 S K os x.n) k = bts S k) ∧ (sqS3 S K os x.n).room = S.room := by
  obtain ⟨s1, c1, g1, b1⟩ := hg.sync hc hf
  obtain ⟨u1, u2, u3, u4⟩ := cs_sized hr K
  have hnm : (csK S K).nm = K.nm := csK_nm S K
  have hso : Sound (csS S K) K.nm (os ++ [x]) := by rw [← hnm]; exact g1.sound
  have hkv : (csK S K).kv = kvOf ((os ++ [x]).flatMap Sg.cs) := g1.kv
  have hoks : ∀ c ∈ (os ++ [x]).flatMap Sg.cs, c.Ok := fun c hc => by
    obtain ⟨y, hy, hc⟩ := List.mem_flatMap.1 hc
    exact hso.oks y hy c hc
  have h1 : ∀ p ∈ kvL (csK S K).kv, cfE (strL p.1) (strL p.2) = 0 := by rw [hkv]; exact pairs_ok hoks
  have h2 : ∀ k ∈ spk (keysOf os), cfE k ⟨#[]⟩ = 0 := keys_ok fun y hy => hso.oks y (by simp [hy])
  have hkl : (csK S K).kv.length ≤ 1000 := by rw [hkv]; exact Nat.le_trans (kvOf_len _) hm
  have hol : (os.flatMap Sg.cs).length ≤ 1000 := by
    rw [List.flatMap_append, List.length_append] at hm
    omega
  have hsl : (spk (keysOf os)).length ≤ 1000 := by
    have := spk_len (keysOf os)
    unfold keysOf at this ⊢
    rw [List.length_map] at this
    omega
  have hcount : (shedR (csK S K) os).length ≤ 2000 := by
    unfold shedR recsP recsD goneK
    rw [List.length_append, List.length_map, List.length_map, kvL_len]
    have := List.length_filter_le (fun k => !(get (csK S K).kv k.data.toList).isSome) (spk (keysOf os))
    omega
  have hfile : ∀ y ∈ os ++ [x], ∃ f, get (csS S K).fs (fileB K.nm y.n).data.toList = some f ∧ f.bytes = y.cs.flatMap chB ++ y.tl := fun y hy => by
    have := hso.file y hy
    unfold bts at this
    cases hh : get (csS S K).fs (fileB K.nm y.n).data.toList with
    | none => rw [hh] at this; cases this
    | some f => rw [hh] at this; exact ⟨f, rfl, by simpa using this⟩
  have hnum := hso.num
  have hsh : ShOk (csS S K) (csK S K) os := by
    refine ⟨fun y hy => ?_, by omega, by omega, h2, by omega, g1.ok, h1, by omega, shed_sizes h1 h2, by omega⟩
    obtain ⟨f, e1, e2⟩ := hfile y (by simp [hy])
    have hok := fileB_ok hf.nm y.n
    have hfd : foundE (csS S K) (fileB K.nm y.n) = 0 := by unfold foundE; rw [if_pos c1.on, if_pos hok, e1]; rfl
    have hrd : readV (csS S K) (fileB K.nm y.n) = strL f.bytes := by unfold readV; rw [if_pos hfd, e1]
    rw [hnm]
    refine ⟨hfd, by rw [hrd, ← e2]; rfl, hso.oks y (by simp [hy]), fun h => by rw [hso.torn y (by simp [hy]) h]; decide, ?_, ?_⟩
    · rw [hrd]
      have := get_used e1
      show f.bytes.toArray.size ≤ _
      simp
      omega
    · have := fileB_size hf.nm y.n
      omega
  have ho := rn_all c1.on u4 (fileB K.nm x.n) (shedR (csK S K) os) (fileB_ok hf.nm x.n) (comB_ok hf.nm x.n) (comB_ne _)
  have hE : rnE (csS S K) (fileB K.nm x.n) (shedR (csK S K) os) = 0 ∧ (rnS (csS S K) (fileB K.nm x.n) (shedR (csK S K) os)).on = true ∧ get (rnS (csS S K) (fileB K.nm x.n) (shedR (csK S K) os)).fs (fileB K.nm x.n).data.toList = some ⟨(catB (shedR (csK S K) os)).data.toList, (catB (shedR (csK S K) os)).data.toList.length⟩ := by
    rcases ho.out with q | ⟨q, _⟩ | ⟨q, _⟩
    · exact q
    · exact absurd q (ho.fits (by rw [catB_size]; omega))
    · exact absurd q (ho.kept.calm c1.armed).2
  obtain ⟨hE0, hon2, hF⟩ := hE
  have hgone := rn_gone u4 (fileB K.nm x.n) (shedR (csK S K) os) hE0
  have hr2 := rn_rise u4 (fileB K.nm x.n) (shedR (csK S K) os)
  have hoth := ho.others
  have hcalm := (ho.kept.calm c1.armed).1
  have hlt : ∀ y ∈ os, y.n < x.n := fun y hy => by
    have := hso.rise
    rw [List.map_append] at this
    exact (List.pairwise_append.1 this).2.2 y.n (List.mem_map_of_mem hy) x.n (by simp)
  have hneF : ∀ y ∈ os, (fileB K.nm y.n).data.toList ≠ (fileB K.nm x.n).data.toList := fun y hy e => by
    have := fileB_inj K.nm (hnum y (by simp [hy])).2 (hnum x (by simp)).2 e
    have := hlt y hy
    omega
  have hold : ∀ s ∈ oldN K.nm os, ∃ y ∈ os, s = fileB K.nm y.n := fun s hs => by
    obtain ⟨y, hy, rfl⟩ := List.mem_map.1 hs
    exact ⟨y, hy, rfl⟩
  obtain ⟨j, q1, q2, q3, q4, q5⟩ := rm_out (oldN K.nm os) (rnS (csS S K) (fileB K.nm x.n) (shedR (csK S K) os)) hon2 hr2 (fun s hs => by
    obtain ⟨y, hy, rfl⟩ := hold s hs
    refine ⟨fileB_ok hf.nm y.n, ?_⟩
    show (get _ (fileB K.nm y.n).data.toList).isSome = true
    rw [hoth _ (hneF y hy) (file_not_com _ _ _)]
    obtain ⟨f, e1, _⟩ := hfile y (by simp [hy])
    rw [e1]; rfl) (by
    have hp := hso.rise
    rw [List.map_append] at hp
    have hp := (List.pairwise_append.1 hp).1
    rw [oldN, List.map_map, List.nodup_iff_pairwise_ne, List.pairwise_map]
    refine (List.pairwise_map.1 hp).imp_of_mem ?_
    intro a b ha hb hab e
    have := fileB_inj K.nm (hnum a (by simp [ha])).2 (hnum b (by simp [hb])).2 e
    omega)
  have hfin : (rmAll (rnS (csS S K) (fileB K.nm x.n) (shedR (csK S K) os)) (oldN K.nm os)).1 = 0 ∧ (rmAll (rnS (csS S K) (fileB K.nm x.n) (shedR (csK S K) os)) (oldN K.nm os)).2.on = true ∧ j = (oldN K.nm os).length := by
    rcases q5 with q | ⟨q, _⟩
    · exact q
    · exact absurd q (q3.calm hcalm).2
  obtain ⟨m1, m2, rfl⟩ := hfin
  rw [List.take_length] at q2
  have hS3 : sqS3 S K os x.n = (rmAll (rnS (csS S K) (fileB K.nm x.n) (shedR (csK S K) os)) (oldN K.nm os)).2 := rfl
  have hcalm3 : Calm (sqS3 S K os x.n) := ⟨by rw [hS3]; exact m2, by rw [hS3]; exact (q3.calm hcalm).1⟩
  have hFn : (fileB K.nm x.n).data.toList ∉ (oldN K.nm os).map keyL := fun h => by
    obtain ⟨s, hs, e⟩ := List.mem_map.1 h
    obtain ⟨y, hy, rfl⟩ := hold s hs
    exact hneF y hy e
  have hbF : bts (sqS3 S K os x.n) (fileB K.nm x.n).data.toList = some ((shedCh (csK S K) os).flatMap chB) := by
    unfold bts
    rw [hS3, q2, if_neg hFn, hF, ← shed_bytes h1 h2]
    rfl
  have hsound : Sound (sqS3 S K os x.n) K.nm [⟨x.n, shedCh (csK S K) os, []⟩] := by
    refine ⟨by simp, fun y hy => ?_, fun y hy => ?_, fun y hy => ?_, fun y hy => ?_, fun k hk hs => ?_⟩
    · simp at hy; subst hy; exact hnum x (by simp)
    · simp at hy; subst hy; rw [List.append_nil]; exact hbF
    · simp at hy; subst hy; exact shed_ok h1 h2
    · simp at hy; subst hy; intro h; exact absurd rfl h
    · refine ⟨_, List.mem_cons_self, ?_⟩
      show k = (fileB K.nm x.n).data.toList
      apply Classical.byContradiction
      intro hne
      unfold bts at hs
      rw [Option.isSome_map, hS3, q2] at hs
      split at hs
      · cases hs
      · rename_i hno
        by_cases hcm : k = (comB (fileB K.nm x.n)).data.toList
        · rw [hcm, hgone] at hs; cases hs
        · rw [hoth k hne hcm] at hs
          obtain ⟨y, hy, e⟩ := hso.only k hk (by unfold bts; rw [Option.isSome_map]; exact hs)
          rcases List.mem_append.1 hy with hy | hy
          · exact hno (by rw [e]; exact List.mem_map.2 ⟨fileB K.nm y.n, List.mem_map_of_mem (f := fun z => fileB K.nm z.n) hy, rfl⟩)
          · simp at hy; subst hy; exact hne e
  have hmc : Mine K.nm (comB (fileB K.nm x.n)).data.toList := by
    obtain ⟨t, ht⟩ := mine_file K.nm x.n
    exact ⟨t ++ [46, 110, 101, 119], by rw [← List.append_assoc, ht]; simp [comB]⟩
  refine ⟨?_, by rw [hS3]; exact q4, hcalm3, fun k hk => ?_, by rw [hS3]; exact (q3.room.trans ho.kept.room).trans u2⟩
  rotate_left
  · unfold bts
    rw [hS3, q2, if_neg (fun h => by
      obtain ⟨s, hs, e⟩ := List.mem_map.1 h
      obtain ⟨y, hy, rfl⟩ := hold s hs
      exact hk (by rw [← e]; exact mine_file K.nm y.n)), hoth k (fun e => hk (by rw [e]; exact mine_file K.nm x.n)) (fun e => hk (by rw [e]; exact hmc))]
    exact b1 k
  refine ⟨hg.ok, by rw [hg.segs]; simp, fun m hm' => ?_, hdead, fileB_size hf.nm x.n, comB_ok hf.nm x.n, hsh, s1, by rw [u3]; exact hlen, hE0, fun s hs => ?_, m1, hcalm3.on, hsound, ?_, by simp, ?_, hnm, g1.ok⟩
  · rcases List.mem_append.1 hm' with h | h
    · obtain ⟨y, hy, rfl⟩ := List.mem_map.1 h
      exact hnum y (by simp [hy])
    · simp at h; subst h; exact hnum x (by simp)
  · obtain ⟨y, _, rfl⟩ := hold s hs
    have := fileB_size hf.nm y.n
    omega
  · exact (hcalm3.set (fileB K.nm x.n) (fileB_ok hf.nm x.n) (by rw [hbF]; rfl)).1
  · have := shed_len (csK S K) os
    simp
    omega
end Go.Proofs.YtfmmholkeadejaaGreatDoor

/- The squashed segment is not longer than what it stands for: without memory. -/
namespace Go.Proofs.YtfmmholkeadejaaGreatDoor
open Go.Lib

/-- The weight of a key's last change; nothing, if it has none. The list is turned: its newest change stands first. -/
def lastW (wt : Ch → Nat) (k : List UInt8) : List Ch → Nat
  | [] => 0
  | c :: r => if k = c.k.data.toList then wt c else lastW wt k r
theorem sum_erase {ks : List (List UInt8)} {k : List UInt8} (f : List UInt8 → Nat) (h : k ∈ ks) : (ks.map f).sum = f k + ((ks.erase k).map f).sum := by
  have := (List.perm_cons_erase h).map f
  rw [this.sum_nat, List.map_cons, List.sum_cons]
theorem last_sum (wt : Ch → Nat) : ∀ (l : List Ch) (ks : List (List UInt8)), ks.Nodup → (ks.map fun k => lastW wt k l).sum ≤ (l.map wt).sum
  | [], ks, _ => by
    have : (ks.map fun k => lastW wt k []) = ks.map fun _ => 0 := rfl
    rw [this]
    have : ∀ l : List (List UInt8), (l.map fun _ => 0).sum = 0 := fun l => by induction l with | nil => rfl | cons a l ih => rw [List.map_cons, List.sum_cons, ih]
    rw [this]
    exact Nat.zero_le _
  | c :: r, ks, hn => by
    have key : ∀ ms : List (List UInt8), c.k.data.toList ∉ ms → (ms.map fun k => lastW wt k (c :: r)) = ms.map fun k => lastW wt k r := fun ms hm => List.map_congr_left fun k hk => by
      rw [lastW, if_neg (fun e => hm (by rw [← e]; exact hk))]
    rw [List.map_cons, List.sum_cons]
    by_cases h : c.k.data.toList ∈ ks
    · rw [sum_erase _ h, key (ks.erase c.k.data.toList) (fun hh => (hn.mem_erase_iff.1 hh).1 rfl)]
      have := last_sum wt r (ks.erase c.k.data.toList) (hn.erase _)
      rw [lastW, if_pos rfl]
      omega
    · rw [key ks h]
      have := last_sum wt r ks hn
      omega
/-- What a key has, and its last change. -/
theorem last_live (wt : Ch → Nat) (hw : ∀ k v n, wt ⟨k, v, false⟩ = n → True) {k : List UInt8} : ∀ (l : List Ch) (f : Fl), get (kvOf l.reverse) k = some f → lastW wt k l = wt ⟨strL k, strL f.bytes, false⟩
  | [], f, h => by cases h
  | c :: r, f, h => by
    rw [List.reverse_cons, kvOf_snoc, get_take (kvOf_rise _)] at h
    rw [lastW]
    split at h
    · rename_i e
      rw [if_pos e]
      split at h
      · cases h
      · rename_i hd
        cases h
        have hd : c.dead = false := by simpa using hd
        obtain ⟨ck, cv, cd⟩ := c
        simp only at hd e ⊢
        subst hd
        rw [e, strL_data, strL_data]
    · rename_i e
      rw [if_neg e]
      exact last_live wt hw r f h
theorem last_gone (wt : Ch → Nat) (hw : ∀ k v, wt ⟨k, v, true⟩ = wt ⟨k, ⟨#[]⟩, true⟩) {k : ByteArray} : ∀ (l : List Ch), get (kvOf l.reverse) k.data.toList = none → (∃ c ∈ l, c.k = k) → lastW wt k.data.toList l = wt ⟨k, ⟨#[]⟩, true⟩
  | [], _, ⟨c, hc, _⟩ => by cases hc
  | c :: r, h, ⟨x, hx, e⟩ => by
    rw [List.reverse_cons, kvOf_snoc, get_take (kvOf_rise _)] at h
    rw [lastW]
    split at h
    · rename_i e1
      rw [if_pos e1]
      split at h
      · rename_i hd
        obtain ⟨ck, cv, cd⟩ := c
        simp only at hd e1 ⊢
        subst hd
        rw [hw]
        have : ck = k := bytes_ext e1.symm
        rw [this]
      · cases h
    · rename_i e1
      rw [if_neg e1]
      refine last_gone wt hw r h ?_
      rcases List.mem_cons.1 hx with rfl | hx
      · exact absurd (by rw [e]) e1
      · exact ⟨x, hx, e⟩
theorem compact_rise {zs : List (List UInt8)} (h : zs.Pairwise (· ≤ ·)) : (compact zs).Pairwise (· < ·) := by
  unfold compact compactUpTo
  rw [List.pairwise_map]
  have hr : ((List.range zs.length).filter (keeps zs.toArray)).Pairwise (· < ·) := (List.pairwise_lt_range (n := zs.length)).filter _
  refine hr.imp_of_mem ?_
  intro i j hi hj hij
  have hj' : j < zs.length := List.mem_range.1 (List.mem_filter.1 hj).1
  have hk := (List.mem_filter.1 hj).2
  have hne : zs.toArray[j]! ≠ zs.toArray[j - 1]! := by
    unfold keeps at hk
    have := of_decide_eq_true hk
    rcases this with q | q
    · omega
    · exact q
  rw [getElem!_pos zs.toArray j (by simpa using hj'), getElem!_pos zs.toArray (j - 1) (by simp; omega)] at hne
  rw [getElem!_pos zs.toArray j (by simpa using hj'), getElem!_pos zs.toArray i (by simp; omega)]
  simp only [List.getElem_toArray] at hne ⊢
  have hle : ∀ a b (ha : a < zs.length) (hb : b < zs.length), a ≤ b → zs[a] ≤ zs[b] := fun a b ha hb hab => by
    rcases Nat.lt_or_ge a b with q | q
    · exact List.pairwise_iff_getElem.1 h a b ha hb q
    · have : a = b := by omega
      subst this
      exact List.le_refl _
  have h1 := hle i (j - 1) (by omega) (by omega) (by omega)
  have h2 := hle (j - 1) j (by omega) hj' (by omega)
  have h3 : zs[j - 1] < zs[j] := by
    apply Classical.byContradiction
    intro hn
    exact hne (List.le_antisymm (List.not_lt.1 hn) h2)
  exact List.lt_of_le_of_lt h1 h3
theorem spk_nodup (ks : List ByteArray) : ((spk ks).map keyL).Nodup := by
  have hs : ((ks.map fun k => k.data.toList).mergeSort fun x y => decide (x ≤ y)).Pairwise (· ≤ ·) := by
    have := List.pairwise_mergeSort (le := fun (x y : List UInt8) => decide (x ≤ y)) (fun a b c h1 h2 => by simp at h1 h2 ⊢; exact List.le_trans h1 h2) (fun a b => by simp; exact List.le_total a b) (ks.map fun k => k.data.toList)
    exact this.imp fun h => by simpa using h
  have hc := compact_rise hs
  unfold spk
  rw [List.map_map]
  have e : (keyL ∘ fun (x : List UInt8) => (⟨x.toArray⟩ : ByteArray)) = id := by funext x; simp [keyL]
  rw [e, List.map_id, List.nodup_iff_pairwise_ne]
  exact hc.imp fun h e => by rw [e] at h; exact List.lt_irrefl _ h
/-- The squashed changes weigh no more than all. -/
theorem shed_weight (wt : Ch → Nat) (hw : ∀ k v, wt ⟨k, v, true⟩ = wt ⟨k, ⟨#[]⟩, true⟩) {K : Ck} {os : List Sg} {chs : List Ch} (hkv : K.kv = kvOf chs) (hos : ∀ k ∈ keysOf os, ∃ c ∈ chs, c.k = k) : ((shedCh K os).map wt).sum ≤ (chs.map wt).sum := by
  have hr : Rising K.kv := by rw [hkv]; exact kvOf_rise chs
  have hg : ∀ k ∈ goneK K.kv (spk (keysOf os)), get K.kv k.data.toList = none ∧ k ∈ spk (keysOf os) := fun k hk => by
    obtain ⟨h1, h2⟩ := List.mem_filter.1 hk
    exact ⟨by simpa using h2, h1⟩
  have hn : (K.kv.map Prod.fst ++ (goneK K.kv (spk (keysOf os))).map keyL).Nodup := by
    refine List.nodup_append.2 ⟨hr.nodup, (List.filter_sublist.map keyL).nodup (spk_nodup _), fun a ha b hb e => ?_⟩
    obtain ⟨p, hp, rfl⟩ := List.mem_map.1 ha
    obtain ⟨k, hk, rfl⟩ := List.mem_map.1 hb
    have h1 := mem_get hr hp
    rw [e] at h1
    rw [(hg k hk).1] at h1
    cases h1
  have := last_sum wt chs.reverse _ hn
  have e1 : (chs.reverse.map wt).sum = (chs.map wt).sum := ((List.reverse_perm chs).map wt).sum_nat
  rw [e1] at this
  refine Nat.le_trans (Nat.le_of_eq ?_) this
  unfold shedCh
  rw [List.map_append, List.map_append]
  congr 2
  · rw [List.map_map, List.map_map, kvL, List.map_map]
    refine List.map_congr_left fun p hp => ?_
    have h1 := mem_get hr hp
    rw [hkv, ← List.reverse_reverse chs] at h1
    exact (last_live wt (fun _ _ _ _ => trivial) chs.reverse p.2 h1).symm
  · rw [List.map_map, List.map_map]
    refine List.map_congr_left fun k hk => ?_
    obtain ⟨h1, h2⟩ := hg k hk
    rw [hkv, ← List.reverse_reverse chs] at h1
    obtain ⟨c, hc, e⟩ := hos k (mem_spk h2)
    exact (last_gone wt hw chs.reverse h1 ⟨c, by simpa using hc, e⟩).symm
theorem flat_sum (l : List Ch) : (l.flatMap chB).length = (l.map fun c => (chB c).length).sum := by
  rw [List.length_flatMap]
theorem shed_bytes_le {K : Ck} {os : List Sg} {chs : List Ch} (hkv : K.kv = kvOf chs) (hos : ∀ k ∈ keysOf os, ∃ c ∈ chs, c.k = k) : ((shedCh K os).flatMap chB).length ≤ (chs.flatMap chB).length := by
  rw [flat_sum, flat_sum]
  refine shed_weight (fun c => (chB c).length) (fun k v => ?_) hkv hos
  show (recL k v true).length = (recL k ⟨#[]⟩ true).length
  rfl
theorem ones : ∀ l : List Ch, (l.map fun _ => 1).sum = l.length
  | [] => rfl
  | c :: l => by rw [List.map_cons, List.sum_cons, ones l, List.length_cons]; omega
theorem shed_count_le {K : Ck} {os : List Sg} {chs : List Ch} (hkv : K.kv = kvOf chs) (hos : ∀ k ∈ keysOf os, ∃ c ∈ chs, c.k = k) : (shedCh K os).length ≤ chs.length := by
  have := shed_weight (fun _ => 1) (fun _ _ => rfl) hkv hos
  rwa [ones, ones] at this
end Go.Proofs.YtfmmholkeadejaaGreatDoor

/- Squash (39) where there is nothing to do; bytes on a disk. -/
namespace Go.Proofs.YtfmmholkeadejaaGreatDoor
open Go.RowKit

set_option maxHeartbeats 1600000 in
set_option maxRecDepth 100000 in
theorem squash_rest {w0 W : World} {N : Lo} {c d mb : Nat} {S : Dk} {K : Ck} (h : Cur w0 W N c d mb S K) (hb : K.broken = false) (hs : K.segs = [] ∨ (K.segs.length = 1 ∧ K.recs - (K.kv.length : Int) = 0)) :
    Calls Tryz.prog 39 #[.pointer (some ⟨c, 0, none⟩)] W fun e w' => e = .returned (.tuple #[.int .i64 0, .int .i64 0]) ∧ Cur w0 w' N c d mb S K := by
  obtain ⟨M, hM⟩ : ∃ M, K.segs.length = M := ⟨_, rfl⟩
  have h24 : Hid (Calls Tryz.prog 24 #[.pointer (some ⟨c, 0, none⟩)] W fun e w' => ∃ sa q, e = .returned (.slice sa M q) ∧ Hid (Cur w0 w' N c d mb S K)) := by
    obtain ⟨sv, o⟩ := h.op
    refine (segments_some N c d mb sv S K W o).mono fun e w' ⟨v, e1, e2, e3⟩ => ?_
    obtain ⟨sa, q, rfl⟩ := row_slice e2
    rw [hM] at e1
    exact ⟨sa, q, e1, h.below e3⟩
  have h27 : Hid (∀ W', Hid (Cur w0 W' N c d mb S K) → Calls Tryz.prog 27 #[.pointer (some ⟨c, 0, none⟩)] W' fun e w' => e = .returned (.pointer (some ⟨d, 0, none⟩)) ∧ Hid (Cur w0 w' N c d mb S K)) := fun W' h => by
    obtain ⟨sv, o⟩ := h.out.op
    exact (disk_some c d mb sv K W' o.holds).mono fun e w' ⟨e1, e2⟩ => ⟨e1, h.out.below e2⟩
  have h28 : Hid (∀ W', Hid (Cur w0 W' N c d mb S K) → Calls Tryz.prog 28 #[.pointer (some ⟨c, 0, none⟩)] W' fun e w' => e = .returned (.bool false) ∧ w' = W') := fun W' h => by
    have := cur_broken h.out
    rw [hb] at this
    exact this
  obtain ⟨D, hD⟩ : ∃ D, K.recs - (K.kv.length : Int) = D := ⟨_, rfl⟩
  have h25 : Hid (∀ W', Hid (Cur w0 W' N c d mb S K) → Calls Tryz.prog 25 #[.pointer (some ⟨c, 0, none⟩)] W' fun e w' => e = .returned (.int .i64 D) ∧ Hid (Cur w0 w' N c d mb S K)) := fun W' h => by
    obtain ⟨sv, o⟩ := h.out.op
    have := dead_some N c d mb sv S K W' o
    rw [hD] at this
    exact this.mono fun e w' ⟨e1, e2⟩ => ⟨e1, h.out.below e2⟩
  have hcase : M = 0 ∨ (M = 1 ∧ D = 0) := by
    rcases hs with q | ⟨q1, q2⟩
    · exact .inl (by rw [← hM, q]; rfl)
    · exact .inr ⟨by omega, by rw [← hD]; exact q2⟩
  clear h hs hD hM hb
  rcases hcase with rfl | ⟨rfl, rfl⟩
  · go_enter Tryz.func39, Tryz.ntmps39
    go_wp2_with (first
      | (go_at_call 28; refine (h28.out _ t2).mono ?_; rintro e wb ⟨rfl, eb⟩; rw [eb]; clear eb)
      | (go_at_call 27; refine (h27.out _ t1).mono ?_; rintro e w2 ⟨rfl, t2⟩)
      | (go_at_call 24; refine h24.out.mono ?_; rintro e w1 ⟨sb, q, rfl, t1⟩))
    go_ret2
    exact ⟨rfl, t2.out⟩
  · go_enter Tryz.func39, Tryz.ntmps39
    go_wp2_with (first
      | (go_at_call 25; refine (h25.out _ t2).mono ?_; rintro e w3 ⟨rfl, t3⟩)
      | (go_at_call 28; refine (h28.out _ t2).mono ?_; rintro e wb ⟨rfl, eb⟩; rw [eb]; clear eb)
      | (go_at_call 27; refine (h27.out _ t1).mono ?_; rintro e w2 ⟨rfl, t2⟩)
      | (go_at_call 24; refine h24.out.mono ?_; rintro e w1 ⟨sb, q, rfl, t1⟩))
    go_ret2
    exact ⟨rfl, t3.out⟩
theorem used_some_keys : ∀ (ks : List (List UInt8)) (fs : Fs), Rising fs → ks.Nodup → (ks.map (lenAt fs)).sum ≤ used fs
  | [], _, _, _ => Nat.zero_le _
  | k :: r, fs, hr, hn => by
    obtain ⟨h1, h2⟩ := List.nodup_cons.1 hn
    have ih := used_some_keys r (del k fs) (hr.del _) h2
    have e : (r.map (lenAt (del k fs))) = r.map (lenAt fs) := List.map_congr_left fun x hx => by
      unfold lenAt
      rw [get_del hr, if_neg (fun e => h1 (by rw [← e]; exact hx))]
    rw [e] at ih
    have := used_del fs k
    rw [List.map_cons, List.sum_cons]
    omega
theorem used_ge {S : Dk} {nm : ByteArray} {L : List Sg} (h : Sound S nm L) (hr : Rising S.fs) : ((L.flatMap Sg.cs).flatMap chB).length ≤ used S.fs := by
  have hn : (L.map fun y => (fileB nm y.n).data.toList).Nodup := by
    rw [List.nodup_iff_pairwise_ne, List.pairwise_map]
    refine (List.pairwise_map.1 h.rise).imp_of_mem ?_
    intro a b ha hb hab e
    have := fileB_inj nm (h.num a ha).2 (h.num b hb).2 e
    omega
  refine Nat.le_trans ?_ (used_some_keys _ S.fs hr hn)
  rw [List.map_map]
  have key : ∀ M : List Sg, (∀ y ∈ M, y ∈ L) → ((M.flatMap Sg.cs).flatMap chB).length ≤ (M.map (lenAt S.fs ∘ fun y => (fileB nm y.n).data.toList)).sum := fun M hM => by
    induction M with
    | nil => simp
    | cons y M ih =>
      have := ih (fun z hz => hM z (by simp [hz]))
      have hf := h.file y (hM y (by simp))
      have e : lenAt S.fs (fileB nm y.n).data.toList = (y.cs.flatMap chB ++ y.tl).length := by
        unfold bts at hf
        cases hg : get S.fs (fileB nm y.n).data.toList with
        | none => rw [hg] at hf; cases hf
        | some f =>
          rw [hg] at hf
          rw [lenAt_some hg]
          have : f.bytes = y.cs.flatMap chB ++ y.tl := by simpa using hf
          rw [this]
      rw [List.flatMap_cons, List.flatMap_append, List.length_append, List.map_cons, List.sum_cons]
      show _ ≤ lenAt S.fs (fileB nm y.n).data.toList + _
      rw [e, List.length_append]
      omega
  exact key L (fun y hy => hy)
theorem used_one {fs : Fs} {F : List UInt8} (hr : Rising fs) (h : ∀ p ∈ fs, p.1 = F) : used fs ≤ lenAt fs F := by
  match fs, hr, h with
  | [], _, _ => exact Nat.zero_le _
  | [p], _, h =>
    have e := h p (by simp)
    have : lenAt [p] p.1 = p.2.bytes.length := lenAt_cons_eq p []
    rw [e] at this
    rw [this]
    simp [used]
  | p :: q :: r, hr, h =>
    have h1 := (List.pairwise_cons.1 hr).1 q (by simp)
    rw [h p (by simp), h q (by simp)] at h1
    exact absurd h1 (List.lt_irrefl _)
end Go.Proofs.YtfmmholkeadejaaGreatDoor

/- SquashLess: what its rounds and its squashes hold. -/
namespace Go.Proofs.YtfmmholkeadejaaGreatDoor
open Go.RowKit

theorem lay_used {S : Dk} (hr : Rising S.fs) (k r : ByteArray) : used (layT S k r).fs ≤ used S.fs + r.size := by
  unfold layT
  split
  · split
    · rw [stepS_fs]
      unfold layS
      simp only
      have h1 := used_put hr k.data.toList ⟨(oldF S k.data.toList).bytes ++ joins [r], (oldF S k.data.toList).firm⟩
      have h2 : (oldF S k.data.toList).bytes.length ≤ lenAt S.fs k.data.toList := by
        unfold oldF lenAt
        cases get S.fs k.data.toList <;> simp
      have h3 : (joins [r]).length = r.size := by
        show (r.data.toList ++ []).length = _
        rw [List.append_nil]
        rfl
      rw [List.length_append, h3] at h1
      omega
    · omega
  · omega
theorem st_used {S : Dk} (hr : Rising S.fs) (K : Ck) (r : ByteArray) : used (stS S K r).fs ≤ used S.fs + r.size := by
  unfold stS
  split
  · exact lay_used hr _ _
  · obtain ⟨u1, u2, u3, u4⟩ := cs_sized hr K
    unfold bgS
    split
    · have := lay_used u4 (bgF K) r
      omega
    · omega
/-- In the loop. -/
structure LeS (w : World) (N : Lo) (c d mb : Nat) (S : Dk) (K : Ck) (chs : List Ch) (i : Nat) (W : World) : Prop where
  cur : Cur w W N c d mb S K
  on : On S K v1B chs i
  calm : Calm S
  fs : S.fs.length ≤ i
  oks : ∀ x ∈ chs, x.Ok
  mine : ∀ k, ¬ Mine v1B k → bts S k = none
  room : S.room = 16777216
  us : used S.fs ≤ 60300 * i
def LeI (w : World) (c d i : Nat) (W : World) : Prop := ∃ N mb S K chs, LeS w N c d mb S K chs i W
theorem LeI.bel {w W : World} {c d i : Nat} (h : LeI w c d i W) : Below w.heap.size w W := by
  obtain ⟨N, mb, S, K, chs, h⟩ := h
  exact h.cur.bel
theorem LeI.below {w W W' : World} {c d i : Nat} (h : LeI w c d i W) (hb : Below W.heap.size W W') : LeI w c d i W' := by
  obtain ⟨N, mb, S, K, chs, h⟩ := h
  exact ⟨N, mb, S, K, chs, h.cur.below hb, h.on, h.calm, h.fs, h.oks, h.mine, h.room, h.us⟩
theorem le_next {w W w' : World} {N : Lo} {c d mb : Nat} {S S' : Dk} {K K' : Ck} {chs chs' : List Ch} {i : Nat} (h : LeS w N c d mb S K chs i W) (e2 : Cur w w' N c d mb S' K') (o : On S' K' v1B chs' (i + 1)) (q : Wr S v1B S') (hok : ∀ x ∈ chs', x.Ok) (hu : used S'.fs ≤ used S.fs + 60300) : LeI w c d (i + 1) w' :=
  ⟨N, mb, S', K', chs', e2, o, q.calm, by have := q.sized.len; have := h.fs; omega, hok, fun k hk => (q.others k hk).trans (h.mine k hk), q.sized.room.trans h.room, by have := h.us; omega⟩
theorem le_put {w W : World} {c d i : Nat} (h : LeI w c d i W) (hi : i < 200) (k v : ByteArray) :
    Calls Tryz.prog 18 #[.pointer (some ⟨c, 0, none⟩), .string k, .string v] W fun e w' => ∃ E, e = .returned (.int .i64 E) ∧ LeI w c d (i + 1) w' := by
  obtain ⟨N, mb, S, K, chs, h⟩ := h
  have hfs := h.fs
  by_cases hE : cfE k v = 0
  · obtain ⟨q1, q2, q3⟩ := h.on.write h.calm h.cur.dfine.rise h.cur.fine (by omega) ⟨k, v, false⟩ hE
    have hu : used (stS S K (chR ⟨k, v, false⟩)).fs ≤ used S.fs + 60300 := by
      have := st_used h.cur.dfine.rise K (chR ⟨k, v, false⟩)
      have := chR_size ⟨k, v, false⟩ hE
      omega
    refine (cur_put h.cur k v hE h.on.ok (h.on.room h.cur (by omega) (by omega))).mono fun x w' ⟨e1, e2, e3⟩ => ⟨_, e1, ?_⟩
    rcases q2 with ⟨e, o⟩ | ⟨e, o⟩
    · rw [e, if_pos rfl] at e2
      refine le_next h e2 o q1 (fun x hx => ?_) hu
      rcases List.mem_append.1 hx with hx | hx
      · exact h.oks x hx
      · simp at hx; rw [hx]; exact hE
    · rw [e, if_neg (by decide)] at e2
      exact le_next h e2 o q1 h.oks hu
  · exact (cur_put_bad h.cur k v hE h.on.ok).mono fun x w' ⟨e1, e2, e3⟩ => ⟨_, e1, le_next h e2 (h.on.mono (by omega)) (Wr.same v1B h.calm h.cur.dfine.rise) h.oks (by omega)⟩
theorem le_del {w W : World} {c d i : Nat} (h : LeI w c d i W) (hi : i < 200) (s : ByteArray) (hs : s.size ≤ maxLen) (g q : Nat) (hk : W.cell? ⟨g, 0, none⟩ = some (.string s)) :
    Calls Tryz.prog 19 #[.pointer (some ⟨c, 0, none⟩), .slice (some ⟨g, 0, none⟩) 1 q] W fun e w' => ∃ E, e = .returned (.int .i64 E) ∧ LeI w c d (i + 1) w' := by
  obtain ⟨N, mb, S, K, chs, h⟩ := h
  have hfs := h.fs
  cases hg : get K.kv s.data.toList with
  | none => exact (cur_del_gone h.cur s hs g q hg hk h.on.ok).mono fun x w' ⟨e1, e2, e3⟩ => ⟨_, e1, le_next h e2 (h.on.mono (by omega)) (Wr.same v1B h.calm h.cur.dfine.rise) h.oks (by omega)⟩
  | some f =>
    have hE : cfE s ⟨#[]⟩ = 0 := by
      have hg' := hg
      rw [h.on.kv] at hg'
      obtain ⟨c', hc', e⟩ := kvOf_key chs hg'
      have : c'.k = s := bytes_ext e
      rw [← this]
      exact cfE_key (h.oks c' hc')
    obtain ⟨q1, q2, q3⟩ := h.on.write h.calm h.cur.dfine.rise h.cur.fine (by omega) ⟨s, ⟨#[]⟩, true⟩ hE
    have hu : used (stS S K (chR ⟨s, ⟨#[]⟩, true⟩)).fs ≤ used S.fs + 60300 := by
      have := st_used h.cur.dfine.rise K (chR ⟨s, ⟨#[]⟩, true⟩)
      have := chR_size ⟨s, ⟨#[]⟩, true⟩ hE
      omega
    refine (cur_del h.cur s hE g q f hg hk h.on.ok (h.on.room h.cur (by omega) (by omega))).mono fun x w' ⟨e1, e2, e3⟩ => ⟨_, e1, ?_⟩
    rcases q2 with ⟨e, o⟩ | ⟨e, o⟩
    · rw [e, if_pos rfl] at e2
      refine le_next h e2 o q1 (fun x hx => ?_) hu
      rcases List.mem_append.1 hx with hx | hx
      · exact h.oks x hx
      · simp at hx; rw [hx]; exact hE
    · rw [e, if_neg (by decide)] at e2
      exact le_next h e2 o q1 h.oks hu
theorem le_open {w W : World} {d : Nat} (h : DCur w W (lo0 w) d (newS 16777216)) :
    Calls Tryz.prog 16 #[.pointer (some ⟨d, 0, none⟩), .string v1B] W fun e w' => ∃ c, e = .returned (.tuple #[.pointer (some ⟨c, 0, none⟩), .int .i64 0]) ∧ LeI w c d 0 w' :=
  (on_open h (empty_calm 16777216) v1B aCap [] (empty_sound 16777216 v1B) 0 (by simp) (by simp) (by simp) (by simp)).mono fun e w' ⟨c, mb, e1, S', K', e2, e3, e4, e5, e6, e7, e8, _⟩ => ⟨c, e1, _, mb, S', K', _, e2, e3, e4, by rw [e6]; exact Nat.le_refl _, by simp, fun k _ => by rw [e5]; rfl, by rw [e8]; decide, by rw [e7]; exact Nat.le_refl _⟩
end Go.Proofs.YtfmmholkeadejaaGreatDoor

/- SquashLess: its squashes. -/
namespace Go.Proofs.YtfmmholkeadejaaGreatDoor
open Go.RowKit

theorem len_one {fs : Fs} {F : List UInt8} (hr : Rising fs) (h : ∀ p ∈ fs, p.1 = F) : fs.length ≤ 1 := by
  match fs, hr, h with
  | [], _, _ => exact Nat.zero_le _
  | [p], _, _ => exact Nat.le_refl _
  | p :: q :: r, hr, h =>
    have h1 := (List.pairwise_cons.1 hr).1 q (by simp)
    rw [h p (by simp), h q (by simp)] at h1
    exact absurd h1 (List.lt_irrefl _)
/-- What a squash leaves. -/
structure SqBack (w : World) (c d : Nat) (S0 : Dk) (K0 : Ck) (n : Int) (W : World) (N : Lo) (mb : Nat) (S : Dk) (K : Ck) (x : Sg) : Prop where
  cur : Cur w W N c d mb S K
  good : Good S K [x]
  calm : Calm S
  fs : S.fs.length ≤ 1
  cnt : x.cs.length ≤ 1000
  us : used S.fs ≤ used S0.fs
  room : S.room = S0.room
  name : K.nm = K0.nm
  mine : ∀ k, ¬ Mine K.nm k → bts S k = none
  recs : K.recs = K0.recs - n
theorem sq_any {w W : World} {N : Lo} {c d mb : Nat} {S : Dk} {K : Ck} {L : List Sg} (hcur : Cur w W N c d mb S K) (g : Good S K L) (hc : Calm S) (hfs : S.fs.length < 256) (hcnt : (L.flatMap Sg.cs).length ≤ 1000) (hlen : L.length ≤ 200) (hus : used S.fs ≤ 4000000) (hroom : S.room = 16777216) (hmine : ∀ k, ¬ Mine K.nm k → bts S k = none) (hneed : ¬ (K.segs = [] ∨ (K.segs.length = 1 ∧ K.recs - (K.kv.length : Int) = 0))) :
    ∃ n : Int, 0 ≤ n ∧ n ≤ K.recs ∧ ∀ W, Cur w W N c d mb S K → Calls Tryz.prog 39 #[.pointer (some ⟨c, 0, none⟩)] W fun e w' => e = .returned (.tuple #[.int .i64 n, .int .i64 0]) ∧ ∃ N' mb' S' K' x, SqBack w c d S K n w' N' mb' S' K' x ∧ (L.length = 1 → K'.recs - (K'.kv.length : Int) = 0) := by
  have hLne : L ≠ [] := fun e => hneed (.inl (by rw [g.segs, e]; rfl))
  obtain ⟨os, x, rfl⟩ : ∃ os x, L = os ++ [x] := ⟨L.dropLast, L.getLast hLne, (List.dropLast_concat_getLast hLne).symm⟩
  have hdead : os ≠ [] ∨ K.recs - (K.kv.length : Int) ≠ 0 := by
    by_cases ho : os = []
    · refine .inr fun e => hneed (.inr ⟨?_, e⟩)
      rw [g.segs, ho]; rfl
    · exact .inl ho
  obtain ⟨s1, c1, g1, b1⟩ := g.sync hc hcur.fine
  have hr := hcur.dfine.rise
  obtain ⟨u1, u2, u3, u4⟩ := cs_sized hr K
  have hkv : (csK S K).kv = kvOf ((os ++ [x]).flatMap Sg.cs) := g1.kv
  have hkv0 : K.kv = kvOf ((os ++ [x]).flatMap Sg.cs) := g.kv
  have hoks : ∀ c ∈ (os ++ [x]).flatMap Sg.cs, c.Ok := fun c hc => by
    obtain ⟨y, hy, hc⟩ := List.mem_flatMap.1 hc
    exact g.sound.oks y hy c hc
  have h1 : ∀ p ∈ kvL (csK S K).kv, cfE (strL p.1) (strL p.2) = 0 := by rw [hkv]; exact pairs_ok hoks
  have h2 : ∀ k ∈ spk (keysOf os), cfE k ⟨#[]⟩ = 0 := keys_ok fun y hy => g.sound.oks y (by simp [hy])
  have hos : ∀ k ∈ keysOf os, ∃ c ∈ (os ++ [x]).flatMap Sg.cs, c.k = k := fun k hk => by
    obtain ⟨c, hc, e⟩ := List.mem_map.1 hk
    exact ⟨c, by rw [List.flatMap_append]; exact List.mem_append_left _ hc, e⟩
  have hbl : ((shedCh (csK S K) os).flatMap chB).length ≤ used S.fs := Nat.le_trans (shed_bytes_le hkv hos) (used_ge g.sound hr)
  have hcl : (shedCh (csK S K) os).length ≤ ((os ++ [x]).flatMap Sg.cs).length := shed_count_le hkv hos
  have hlens : lens (shedR (csK S K) os) = ((shedCh (csK S K) os).flatMap chB).length := by
    rw [← catB_size, ← shed_bytes h1 h2]
    show _ = (catB _).data.toList.length
    rw [Array.length_toList]
    rfl
  have hol : os.length ≤ 255 := by rw [List.length_append] at hlen; omega
  obtain ⟨hsq, r3, c3, m3, rm3⟩ := sq_go g hc hcur.fine hr hfs hcnt hol hdead (by omega) (by rw [hlens, hroom]; omega)
  obtain ⟨q1, q2, q3, q4⟩ := hsq.sound.opened c3 hcur.fine.nm
  obtain ⟨v1, v2, v3, v4⟩ := ld_sized r3 K.nm [⟨x.n, shedCh (csK S K) os, []⟩]
  have hall : ∀ p ∈ (sqS3 S K os x.n).fs, p.1 = (fileB K.nm x.n).data.toList := fun p hp => by
    have hgt := mem_get r3 hp
    have hs : (bts (sqS3 S K os x.n) p.1).isSome = true := by unfold bts; rw [hgt]; rfl
    by_cases hmi : Mine K.nm p.1
    · obtain ⟨y, hy, e⟩ := hsq.sound.only p.1 hmi hs
      simp at hy; subst hy; exact e
    · rw [m3 p.1 hmi, hmine p.1 hmi] at hs; cases hs
  have hlF : lenAt (sqS3 S K os x.n).fs (fileB K.nm x.n).data.toList = ((shedCh (csK S K) os).flatMap chB).length := by
    have hff := hsq.sound.file ⟨x.n, shedCh (csK S K) os, []⟩ (by simp)
    rw [List.append_nil] at hff
    unfold bts at hff
    cases hgg : get (sqS3 S K os x.n).fs (fileB K.nm x.n).data.toList with
    | none =>
      rw [show (fileB K.nm (⟨x.n, shedCh (csK S K) os, []⟩ : Sg).n) = fileB K.nm x.n from rfl, hgg] at hff
      cases hff
    | some f =>
      rw [show (fileB K.nm (⟨x.n, shedCh (csK S K) os, []⟩ : Sg).n) = fileB K.nm x.n from rfl, hgg] at hff
      rw [lenAt_some hgg]
      have : f.bytes = (shedCh (csK S K) os).flatMap chB := by simpa using hff
      rw [this]
  have hrecs : (ldK K.nm [⟨x.n, shedCh (csK S K) os, []⟩]).recs = ((shedCh (csK S K) os).length : Int) := by
    have := q3.recs
    simpa using this
  have hkv1 : (ldK K.nm [⟨x.n, shedCh (csK S K) os, []⟩]).kv = (csK S K).kv := by
    have e1 := q3.kv
    have e2 : ([⟨x.n, shedCh (csK S K) os, []⟩] : List Sg).flatMap Sg.cs = shedCh (csK S K) os := by simp
    rw [e2] at e1
    rw [e1]
    exact shed_kv (by rw [hkv]; exact kvOf_rise _) (by rw [hkv]; exact kvOf_firm _)
  refine ⟨K.recs - (ldK K.nm [⟨x.n, shedCh (csK S K) os, []⟩]).recs, by rw [hrecs, g.recs]; omega, by rw [hrecs]; omega, fun W hW => (squash_all hsq hW _ rfl).mono fun e w' ⟨e1, mb2, e2⟩ => ⟨e1, _, mb2, _, _, _, ⟨e2, q3, q2, by rw [v3]; exact len_one r3 hall, by simp; omega, ?_, by rw [v2, rm3], rfl, fun k hk => ?_, by omega⟩, fun h1L => ?_⟩⟩
  · rw [v1]
    have := used_one r3 hall
    omega
  · rw [q4, m3 k hk]; exact hmine k hk
  · have : os = [] := List.eq_nil_of_length_eq_zero (by rw [List.length_append] at h1L; simp at h1L; exact h1L ▸ rfl)
    subst this
    rw [hrecs, hkv1]
    have : (shedCh (csK S K) []).length = (csK S K).kv.length := by
      unfold shedCh
      have e0 : spk (keysOf []) = [] := List.eq_nil_of_length_eq_zero (by have := spk_len (keysOf []); simp [keysOf] at this ⊢; exact this)
      rw [e0]
      simp [goneK, kvL_len]
    omega
/-- Behind the first squash. -/
structure LeB (w : World) (N : Lo) (c d mb : Nat) (S : Dk) (K : Ck) (L : List Sg) (W : World) : Prop where
  cur : Cur w W N c d mb S K
  good : Good S K L
  one : L.length ≤ 1
  calm : Calm S
  fs : S.fs.length < 256
  cnt : (L.flatMap Sg.cs).length ≤ 1000
  us : used S.fs ≤ 4000000
  room : S.room = 16777216
  mine : ∀ k, ¬ Mine K.nm k → bts S k = none
theorem le_first {w W0 : World} {N : Lo} {c d mb : Nat} {S : Dk} {K : Ck} {chs : List Ch} {i : Nat} (h : LeS w N c d mb S K chs i W0) (hi : i ≤ 60) :
    ∃ n : Int, 0 ≤ n ∧ n ≤ K.recs ∧ ∀ W, Cur w W N c d mb S K → Calls Tryz.prog 39 #[.pointer (some ⟨c, 0, none⟩)] W fun e w' => e = .returned (.tuple #[.int .i64 n, .int .i64 0]) ∧ ∃ N' mb' S' K' L', LeB w N' c d mb' S' K' L' w' ∧ used S'.fs ≤ used S.fs ∧ K'.recs = K.recs - n := by
  obtain ⟨L, g, hL, hl⟩ := h.on.ex
  have hcn := h.on.len
  have hus := h.us
  have hfs := h.fs
  have hnm := h.on.name
  have hmine : ∀ k, ¬ Mine K.nm k → bts S k = none := by rw [hnm]; exact h.mine
  have hcnt : (L.flatMap Sg.cs).length ≤ 1000 := by rw [hL]; omega
  by_cases hneed : K.segs = [] ∨ (K.segs.length = 1 ∧ K.recs - (K.kv.length : Int) = 0)
  · refine ⟨0, Int.le_refl _, by rw [g.recs]; omega, fun W hW => (squash_rest hW g.ok hneed).mono fun e w' ⟨e1, e2⟩ => ⟨e1, N, mb, S, K, L, ⟨e2, g, ?_, h.calm, by omega, hcnt, by omega, h.room, hmine⟩, Nat.le_refl _, by omega⟩⟩
    have e : L.length = K.segs.length := by rw [g.segs, List.length_map]
    rcases hneed with q | q
    · rw [q] at e; have e0 : L.length = 0 := e; omega
    · omega
  · obtain ⟨n, h0, h1, h2⟩ := sq_any h.cur g h.calm (by omega) hcnt (by omega) (by omega) h.room hmine hneed
    exact ⟨n, h0, h1, fun W hW => (h2 W hW).mono fun e w' ⟨e1, N', mb', S', K', x, b, _⟩ => ⟨e1, N', mb', S', K', [x], ⟨b.cur, b.good, by simp, b.calm, by have := b.fs; omega, by have := b.cnt; simpa using this, by have := b.us; omega, b.room.trans h.room, b.mine⟩, b.us, b.recs⟩⟩
/-- Behind the second one. -/
structure LeC (w : World) (N : Lo) (c d mb : Nat) (S : Dk) (K : Ck) (W : World) : Prop where
  cur : Cur w W N c d mb S K
  ok : K.broken = false
  one : K.segs.length ≤ 1
  dead : K.recs - (K.kv.length : Int) = 0
theorem le_second {w W0 : World} {N : Lo} {c d mb : Nat} {S : Dk} {K : Ck} {L : List Sg} (h : LeB w N c d mb S K L W0) :
    ∃ n : Int, 0 ≤ n ∧ ∀ W, Cur w W N c d mb S K → Calls Tryz.prog 39 #[.pointer (some ⟨c, 0, none⟩)] W fun e w' => e = .returned (.tuple #[.int .i64 n, .int .i64 0]) ∧ ∃ N' mb' S' K', LeC w N' c d mb' S' K' w' := by
  have hone := h.one
  have el : K.segs.length = L.length := by rw [h.good.segs, List.length_map]
  by_cases hneed : K.segs = [] ∨ (K.segs.length = 1 ∧ K.recs - (K.kv.length : Int) = 0)
  · refine ⟨0, Int.le_refl _, fun W hW => (squash_rest hW h.good.ok hneed).mono fun e w' ⟨e1, e2⟩ => ⟨e1, N, mb, S, K, e2, h.good.ok, by omega, ?_⟩⟩
    rcases hneed with q | q
    · have : L = [] := List.eq_nil_of_length_eq_zero (by rw [← el, q]; rfl)
      have e1 := h.good.recs
      have e2 := h.good.kv
      rw [this] at e1 e2
      rw [e1, e2]
      rfl
    · exact q.2
  · obtain ⟨n, h0, h1, h2⟩ := sq_any h.cur h.good h.calm h.fs h.cnt (by omega) h.us h.room h.mine hneed
    have hL1 : L.length = 1 := by
      rcases Nat.eq_zero_or_pos L.length with q | q
      · exact absurd (.inl (List.eq_nil_of_length_eq_zero (by omega))) hneed
      · omega
    exact ⟨n, h0, fun W hW => (h2 W hW).mono fun e w' ⟨e1, N', mb', S', K', x, b, bd⟩ => ⟨e1, N', mb', S', K', b.cur, b.good.ok, by rw [b.good.segs]; simp, bd hL1⟩⟩
theorem le_third {w W : World} {N : Lo} {c d mb : Nat} {S : Dk} {K : Ck} (h : LeC w N c d mb S K W) : Calls Tryz.prog 39 #[.pointer (some ⟨c, 0, none⟩)] W fun e w' => e = .returned (.tuple #[.int .i64 0, .int .i64 0]) ∧ LeC w N c d mb S K w' := by
  refine (squash_rest h.cur h.ok ?_).mono fun e w' ⟨e1, e2⟩ => ⟨e1, e2, h.ok, h.one, h.dead⟩
  have := h.one
  rcases Nat.eq_zero_or_pos K.segs.length with q | q
  · exact .inl (List.eq_nil_of_length_eq_zero q)
  · exact .inr ⟨by omega, h.dead⟩
end Go.Proofs.YtfmmholkeadejaaGreatDoor
