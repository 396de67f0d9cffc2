/- CkSound, CkAsk, CkReop, CkCur, CkOn, CkAwA, CkAwake. -/
import Derived.Test.YtfmmholkeadejaaGreatDoorZC4
import Derived.Test.YtfmmholkeadejaaGreatDoorZC2
import Derived.Test.YtfmmholkeadejaaGreatDoorZC3
import Derived.Test.YtfmmholkeadejaaGreatDoorZC1
import Derived.Test.YtfmmholkeadejaaGreatDoorZC5
/- A cask and its disk agree: without memory, while the power stays. -/
namespace Go.Proofs.YtfmmholkeadejaaGreatDoor

/-- The bytes of a file. -/
def bts (S : Dk) (k : List UInt8) : Option (List UInt8) := (get S.fs k).map Fl.bytes
/-- A name's beginning: a cask's name and a dot. -/
def Mine (nm : ByteArray) (k : List UInt8) : Prop := nm.data.toList ++ [46] <+: k
theorem mine_file (nm : ByteArray) (n : Nat) : Mine nm (fileB nm n).data.toList := ⟨six n, by rw [fileB_list]; simp⟩
theorem dot_list (nm : ByteArray) : (nm ++ (⟨#[46]⟩ : ByteArray)).data.toList = nm.data.toList ++ [46] := by simp
theorem mine_pre (nm : ByteArray) (k : List UInt8) : preS (nm ++ (⟨#[46]⟩ : ByteArray)) ⟨k.toArray⟩ = true ↔ Mine nm k := by
  rw [preS_iff, dot_list]; rfl
theorem fileB_inj (nm : ByteArray) {n m : Nat} (hn : n ≤ 999999) (hm : m ≤ 999999) (h : (fileB nm n).data.toList = (fileB nm m).data.toList) : n = m := by
  rcases Nat.lt_trichotomy n m with g | g | g
  · have := fileB_lt nm g hm; rw [h] at this; exact absurd this (List.lt_irrefl _)
  · exact g
  · have := fileB_lt nm g hn; rw [h] at this; exact absurd this (List.lt_irrefl _)
/-- The disk has just these segments of a cask. -/
structure Sound (S : Dk) (nm : ByteArray) (L : List Sg) : Prop where
  rise : (L.map Sg.n).Pairwise (· < ·)
  num : ∀ x ∈ L, 1 ≤ x.n ∧ x.n ≤ 999999
  file : ∀ x ∈ L, bts S (fileB nm x.n).data.toList = some (x.cs.flatMap chB ++ x.tl)
  oks : ∀ x ∈ L, ∀ c ∈ x.cs, c.Ok
  torn : ∀ x ∈ L, x.tl ≠ [] → Pk.uE (Pk.strL x.tl) = 10
  only : ∀ k, Mine nm k → (bts S k).isSome = true → ∃ x ∈ L, k = (fileB nm x.n).data.toList
theorem Sound.seg {S : Dk} {nm : ByteArray} {L : List Sg} (h : Sound S nm L) : ∀ x ∈ L, SgOn S nm x := fun x hx => by
  have hf := h.file x hx
  unfold bts at hf
  refine ⟨h.num x hx, ?_, h.oks x hx, h.torn x hx⟩
  cases hg : get S.fs (fileB nm x.n).data.toList with
  | none => rw [hg] at hf; cases hf
  | some f => rw [hg] at hf; exact ⟨f, rfl, by simpa using hf⟩
theorem bts_mem {S : Dk} {k : List UInt8} : (bts S k).isSome = true ↔ k ∈ S.fs.map Prod.fst := by
  unfold bts
  rw [Option.isSome_map]
  constructor
  · intro h
    obtain ⟨f, hf⟩ := Option.isSome_iff_exists.1 h
    exact List.mem_map.2 ⟨_, get_mem hf, rfl⟩
  · intro h
    obtain ⟨p, hp, rfl⟩ := List.mem_map.1 h
    have : ∀ (l : Fs), p ∈ l → (get l p.1).isSome = true := by
      intro l
      induction l with
      | nil => intro h; cases h
      | cons q r ih =>
        intro h
        rw [get]
        split
        · rfl
        · rcases List.mem_cons.1 h with rfl | h
          · rename_i e; exact absurd rfl e
          · exact ih h
    exact this _ hp
theorem Sound.list {S : Dk} {nm : ByteArray} {L : List Sg} (h : Sound S nm L) (hr : Rising S.fs) : listK S (nm ++ (⟨#[46]⟩ : ByteArray)) = L.map fun x => (fileB nm x.n).data.toList := by
  rw [listK_segs hr nm (L.map Sg.n) h.rise (fun n hn => by obtain ⟨x, hx, rfl⟩ := List.mem_map.1 hn; exact (h.num x hx).2) (fun n hn => by
      obtain ⟨x, hx, rfl⟩ := List.mem_map.1 hn
      exact bts_mem.1 (by rw [h.file x hx]; rfl)) (fun n _ => (mine_pre nm _).2 (mine_file nm n)) (fun k hk hp => by
      obtain ⟨x, hx, e⟩ := h.only k ((mine_pre nm k).1 hp) (bts_mem.2 hk)
      exact ⟨x.n, List.mem_map.2 ⟨x, hx, rfl⟩, e⟩), List.map_map]
  rfl
/-- It hangs on the bytes of the cask's own files alone. -/
theorem Sound.of {S S' : Dk} {nm : ByteArray} {L : List Sg} (h : Sound S nm L) (hb : ∀ k, Mine nm k → bts S' k = bts S k) : Sound S' nm L :=
  ⟨h.rise, h.num, fun x hx => (hb _ (mine_file nm x.n)).trans (h.file x hx), h.oks, h.torn, fun k hk hs => h.only k hk (by rw [← hb k hk]; exact hs)⟩
/-- The power is there, and stays. -/
structure Calm (S : Dk) : Prop where
  on : S.on = true
  armed : S.armed = false
theorem Calm.stepE {S : Dk} (h : Calm S) : stepE S = 0 := by unfold YtfmmholkeadejaaGreatDoor.stepE; rw [h.armed]; rfl
theorem Calm.stepS {S : Dk} (h : Calm S) : stepS S = tickS S := by unfold YtfmmholkeadejaaGreatDoor.stepS; rw [h.armed]; rfl
theorem Calm.tick {S : Dk} (h : Calm S) : Calm (tickS S) := ⟨h.on, h.armed⟩
theorem bts_tick (S : Dk) (k : List UInt8) : bts (tickS S) k = bts S k := rfl
theorem Calm.lay {S : Dk} (h : Calm S) (k r : ByteArray) : (layE S r = 0 ∧ Calm (layT S k r) ∧ fitB S [r] = true ∧ ∀ k', bts (layT S k r) k' = if k' = k.data.toList then some ((bts S k.data.toList).getD [] ++ r.data.toList) else bts S k') ∨ (layE S r = 22 ∧ layT S k r = S ∧ fitB S [r] = false) := by
  unfold layE layT
  rw [if_pos h.on, if_pos h.on]
  cases hf : fitB S [r] with
  | true =>
    refine .inl ⟨by rw [if_pos rfl]; exact h.stepE, ?_, rfl, fun k' => ?_⟩
    · rw [if_pos rfl, Calm.stepS (S := layS S k.data.toList [r]) ⟨h.on, h.armed⟩]
      exact ⟨h.on, h.armed⟩
    · rw [if_pos rfl, Calm.stepS (S := layS S k.data.toList [r]) ⟨h.on, h.armed⟩, bts_tick]
      unfold bts layS oldF
      simp only [get_put]
      by_cases e : k' = k.data.toList
      · rw [if_pos e, if_pos e]
        cases get S.fs k.data.toList <;> simp [joins]
      · rw [if_neg e, if_neg e]
  | false => exact .inr ⟨by rw [if_neg (by decide)], by rw [if_neg (by decide)], rfl⟩
theorem Calm.set {S : Dk} (h : Calm S) (k : ByteArray) (hk : nameOk k = true) (hs : (bts S k.data.toList).isSome = true) : eachE S k = 0 ∧ Calm (setS S k) ∧ ∀ k', bts (setS S k) k' = bts S k' := by
  have hg : (get S.fs k.data.toList).isSome = true := by unfold bts at hs; rwa [Option.isSome_map] at hs
  have hf : foundE S k = 0 := by unfold foundE; rw [if_pos h.on, if_pos hk, if_pos hg]
  refine ⟨by rw [eachE, if_pos hf]; exact h.stepE, ?_, fun k' => ?_⟩
  · unfold setS eachS
    rw [if_pos hf, if_pos h.stepE, h.stepS]
    exact ⟨h.on, h.armed⟩
  · unfold setS eachS
    rw [if_pos hf, if_pos h.stepE, h.stepS]
    obtain ⟨f, e⟩ := Option.isSome_iff_exists.1 hg
    unfold bts syncS oldF tickS
    simp only [get_put]
    by_cases e2 : k' = k.data.toList
    · rw [if_pos e2, e2, e]; rfl
    · rw [if_neg e2]
/-- A cask on its disk, as it should be. -/
structure Good (S : Dk) (K : Ck) (L : List Sg) : Prop where
  sound : Sound S K.nm L
  segs : K.segs = L.map Sg.n
  kv : K.kv = (L.flatMap Sg.cs).foldl (fun kv c => takeF c kv) []
  recs : K.recs = ((L.flatMap Sg.cs).length : Int)
  whole : 0 < K.left → ∀ x, L.getLast? = some x → x.tl = []
  lim : K.left ≤ 4096
  ok : K.broken = false
theorem newN_last {K : Ck} {L : List Sg} (h : K.segs = L.map Sg.n) : newN K = match L.getLast? with | some x => x.n | none => 0 := by
  unfold newN
  rw [h, List.getLastD_eq_getLast?, List.getLast?_map]
  cases L.getLast? <;> rfl
theorem Good.name {S : Dk} {K : Ck} {L : List Sg} (h : Good S K L) (hne : K.segs ≠ []) : ∃ L0 x, L = L0 ++ [x] ∧ newN K = x.n ∧ (bts S (fileB K.nm (newN K)).data.toList).isSome = true := by
  have hL : L ≠ [] := fun e => hne (by rw [h.segs, e]; rfl)
  obtain ⟨L0, x, e⟩ : ∃ L0 x, L = L0 ++ [x] := ⟨L.dropLast, L.getLast hL, (List.dropLast_concat_getLast hL).symm⟩
  have hn : newN K = x.n := by rw [newN_last h.segs, e]; simp
  refine ⟨L0, x, e, hn, ?_⟩
  rw [hn, h.sound.file x (by rw [e]; simp)]
  rfl
/-- Sync of a cask. -/
theorem Good.sync {S : Dk} {K : Ck} {L : List Sg} (h : Good S K L) (hc : Calm S) (hf : K.Fine) : csE S K = 0 ∧ Calm (csS S K) ∧ Good (csS S K) (csK S K) L ∧ ∀ k, bts (csS S K) k = bts S k := by
  cases hl : K.loose with
  | true =>
    have e1 : csE S K = eachE S (fileB K.nm (newN K)) := if_pos hl
    have e3 : csS S K = setS S (fileB K.nm (newN K)) := if_pos hl
    obtain ⟨L0, x, eL, hn, hs⟩ := h.name (hf.busy hl)
    obtain ⟨q1, q2, q3⟩ := hc.set (fileB K.nm (newN K)) (fileB_ok hf.nm _) hs
    have e4 : csE S K = 0 := e1.trans q1
    have e2 : csK S K = syncK K 0 := by unfold csK; rw [if_pos hl, e4]
    refine ⟨e4, by rw [e3]; exact q2, ?_, by rw [e3]; exact q3⟩
    rw [e2, e3]
    exact ⟨h.sound.of (fun k _ => q3 k), h.segs, h.kv, h.recs, h.whole, h.lim, rfl⟩
  | false =>
    have e1 : csE S K = 0 := if_neg (by rw [hl]; decide)
    have e3 : csS S K = S := if_neg (by rw [hl]; decide)
    have e2 : csK S K = K := if_neg (by rw [hl]; decide)
    rw [e2, e3]
    exact ⟨e1, hc, h, fun _ => rfl⟩
/-- The newest segment has a change more. -/
theorem Sound.more {S S' : Dk} {nm : ByteArray} {L0 : List Sg} {x : Sg} {ch : Ch} (h : Sound S nm (L0 ++ [x])) (ht : x.tl = []) (hok : ch.Ok)
    (hb : ∀ k', bts S' k' = if k' = (fileB nm x.n).data.toList then some ((bts S (fileB nm x.n).data.toList).getD [] ++ (chR ch).data.toList) else bts S k') : Sound S' nm (L0 ++ [⟨x.n, x.cs ++ [ch], []⟩]) := by
  have hxm : x ∈ L0 ++ [x] := by simp
  have hx := h.file x hxm
  have hr : ((L0 ++ [⟨x.n, x.cs ++ [ch], []⟩] : List Sg).map Sg.n) = (L0 ++ [x]).map Sg.n := by simp
  have hlt : ∀ y ∈ L0, y.n < x.n := fun y hy => by
    have := h.rise
    rw [List.map_append, List.pairwise_append] at this
    exact this.2.2 y.n (List.mem_map.2 ⟨y, hy, rfl⟩) x.n (by simp)
  have hmem : ∀ y ∈ (L0 ++ [⟨x.n, x.cs ++ [ch], []⟩] : List Sg), (y ∈ L0) ∨ y = ⟨x.n, x.cs ++ [ch], []⟩ := fun y hy => by simpa using hy
  refine ⟨by rw [hr]; exact h.rise, fun y hy => ?_, fun y hy => ?_, fun y hy => ?_, fun y hy => ?_, fun k hk hs => ?_⟩
  · rcases hmem y hy with hy | rfl
    · exact h.num y (by simp [hy])
    · exact h.num x hxm
  · rcases hmem y hy with hy | rfl
    · rw [hb, if_neg (fun e => by
        have := fileB_inj nm (h.num y (by simp [hy])).2 (h.num x hxm).2 e
        have := hlt y hy
        omega)]
      exact h.file y (by simp [hy])
    · rw [hb, if_pos rfl, hx, ht]
      simp [chR, Pk.strL]
  · rcases hmem y hy with hy | rfl
    · exact h.oks y (by simp [hy])
    · intro c hc
      rcases List.mem_append.1 hc with hc | hc
      · exact h.oks x hxm c hc
      · simp at hc; subst hc; exact hok
  · rcases hmem y hy with hy | rfl
    · exact h.torn y (by simp [hy])
    · intro e; exact absurd rfl e
  · rw [hb] at hs
    by_cases e : k = (fileB nm x.n).data.toList
    · exact ⟨⟨x.n, x.cs ++ [ch], []⟩, by simp, e⟩
    · rw [if_neg e] at hs
      obtain ⟨y, hy, e2⟩ := h.only k hk hs
      rcases List.mem_append.1 hy with hy | hy
      · exact ⟨y, by simp [hy], e2⟩
      · simp at hy; subst hy; exact absurd e2 e
/-- A segment more. -/
theorem Sound.begin {S S' : Dk} {nm : ByteArray} {L : List Sg} {n : Nat} {ch : Ch} (h : Sound S nm L) (hn : ∀ x ∈ L, x.n < n) (h1 : 1 ≤ n) (h9 : n ≤ 999999) (hok : ch.Ok)
    (hb : ∀ k', bts S' k' = if k' = (fileB nm n).data.toList then some ((bts S (fileB nm n).data.toList).getD [] ++ (chR ch).data.toList) else bts S k') : Sound S' nm (L ++ [⟨n, [ch], []⟩]) := by
  have hnone : bts S (fileB nm n).data.toList = none := by
    cases hg : bts S (fileB nm n).data.toList with
    | none => rfl
    | some b =>
      obtain ⟨y, hy, e⟩ := h.only _ (mine_file nm n) (by rw [hg]; rfl)
      have := fileB_inj nm h9 (h.num y hy).2 e
      have := hn y hy
      omega
  have hmem : ∀ y ∈ (L ++ [⟨n, [ch], []⟩] : List Sg), (y ∈ L) ∨ y = ⟨n, [ch], []⟩ := fun y hy => by simpa using hy
  refine ⟨?_, fun y hy => ?_, fun y hy => ?_, fun y hy => ?_, fun y hy => ?_, fun k hk hs => ?_⟩
  · rw [List.map_append, List.pairwise_append]
    refine ⟨h.rise, by simp, fun a ha b hb' => ?_⟩
    obtain ⟨y, hy, rfl⟩ := List.mem_map.1 ha
    simp at hb'
    subst hb'
    exact hn y hy
  · rcases hmem y hy with hy | rfl
    · exact h.num y hy
    · exact ⟨h1, h9⟩
  · rcases hmem y hy with hy | rfl
    · rw [hb, if_neg (fun e => by
        have := fileB_inj nm (h.num y hy).2 h9 e
        have := hn y hy
        omega)]
      exact h.file y hy
    · rw [hb, if_pos rfl, hnone]
      simp [chR, Pk.strL]
  · rcases hmem y hy with hy | rfl
    · exact h.oks y hy
    · intro c hc; simp at hc; subst hc; exact hok
  · rcases hmem y hy with hy | rfl
    · exact h.torn y hy
    · intro e; exact absurd rfl e
  · rw [hb] at hs
    by_cases e : k = (fileB nm n).data.toList
    · exact ⟨⟨n, [ch], []⟩, by simp, e⟩
    · rw [if_neg e] at hs
      obtain ⟨y, hy, e2⟩ := h.only k hk hs
      exact ⟨y, by simp [hy], e2⟩
/-- How much a disk has. -/
structure Sized (S S' : Dk) : Prop where
  room : S'.room = S.room
  rise : Rising S'.fs
  len : S'.fs.length ≤ S.fs.length + 1
  used : used S'.fs ≤ max (used S.fs) S.room
theorem set_sized {S : Dk} (hr : Rising S.fs) (k : ByteArray) : used (setS S k).fs = used S.fs ∧ (setS S k).room = S.room ∧ (setS S k).fs.length = S.fs.length ∧ Rising (setS S k).fs := by
  unfold setS eachS
  split
  · rename_i hf
    have hg : ∃ f, get S.fs k.data.toList = some f := by
      unfold foundE at hf
      split at hf
      · split at hf
        · split at hf
          · rename_i e; exact Option.isSome_iff_exists.1 e
          · cases hf
        · cases hf
      · cases hf
    obtain ⟨f, e⟩ := hg
    have hfs : (stepS S).fs = S.fs ∧ (stepS S).room = S.room := by
      unfold stepS
      split
      · split <;> exact ⟨rfl, rfl⟩
      · exact ⟨rfl, rfl⟩
    split
    · unfold syncS oldF
      simp only [hfs.1, hfs.2, e]
      have := used_put hr k.data.toList ⟨f.bytes, f.bytes.length⟩
      rw [lenAt_some e] at this
      refine ⟨?_, trivial, len_put_old hr _ _ _ e, hr.put _ _⟩
      simp only at this
      omega
    · rw [hfs.1, hfs.2]; exact ⟨rfl, rfl, rfl, hr⟩
  · exact ⟨rfl, rfl, rfl, hr⟩
theorem cs_sized {S : Dk} (hr : Rising S.fs) (K : Ck) : used (csS S K).fs = used S.fs ∧ (csS S K).room = S.room ∧ (csS S K).fs.length = S.fs.length ∧ Rising (csS S K).fs := by
  unfold csS
  split
  · exact set_sized hr _
  · exact ⟨rfl, rfl, rfl, hr⟩
theorem lay_sized {S : Dk} (hr : Rising S.fs) (k r : ByteArray) : Sized S (layT S k r) := by
  unfold layT
  split
  · split
    · rename_i hf
      have hfs : (stepS (layS S k.data.toList [r])).fs = (layS S k.data.toList [r]).fs ∧ (stepS (layS S k.data.toList [r])).room = S.room := by
        unfold stepS
        split
        · split <;> exact ⟨rfl, rfl⟩
        · exact ⟨rfl, rfl⟩
      have hfit : used S.fs + r.size ≤ S.room := by
        unfold fitB at hf
        exact of_decide_eq_true hf
      have hu : used (layS S k.data.toList [r]).fs = used S.fs + r.size := by
        unfold layS oldF
        have := used_put hr k.data.toList ⟨(match get S.fs k.data.toList with | some f => f | none => ⟨[], 0⟩ : Fl).bytes ++ joins [r], (match get S.fs k.data.toList with | some f => f | none => ⟨[], 0⟩ : Fl).firm⟩
        have hj : (joins [r]).length = r.size := by simp [joins]
        cases hg : get S.fs k.data.toList with
        | none =>
          rw [hg] at this
          rw [lenAt_none hg] at this
          simp only [List.length_append, List.length_nil, hj] at this
          simp only
          omega
        | some f =>
          rw [hg] at this
          rw [lenAt_some hg] at this
          simp only [List.length_append, hj] at this
          simp only
          omega
      refine ⟨hfs.2, by rw [hfs.1]; exact hr.put _ _, by rw [hfs.1]; exact len_put_le _ _ _, ?_⟩
      rw [hfs.1, hu]
      omega
    · exact ⟨rfl, hr, by omega, by omega⟩
  · exact ⟨rfl, hr, by omega, by omega⟩
theorem st_sized {S : Dk} (hr : Rising S.fs) (K : Ck) (r : ByteArray) : Sized S (stS S K r) := by
  unfold stS
  split
  · exact lay_sized hr _ _
  · obtain ⟨q1, q2, q3, q4⟩ := cs_sized hr K
    unfold bgS
    split
    · have := lay_sized q4 (bgF K) r
      exact ⟨this.room.trans q2, this.rise, by have := this.len; omega, by have := this.used; rw [q1, q2] at this; exact this⟩
    · exact ⟨q2, q4, by omega, by omega⟩
/-- What a writing comes to. -/
structure Wrote (S : Dk) (K : Ck) (L : List Sg) (ch : Ch) : Prop where
  err : stE S K (chR ch) = 0 ∨ stE S K (chR ch) = 22
  calm : Calm (stS S K (chR ch))
  done : stE S K (chR ch) = 0 → ∃ L', Good (stS S K (chR ch)) (laidK (stK S K (chR ch)) ch) L' ∧ L'.flatMap Sg.cs = L.flatMap Sg.cs ++ [ch] ∧ L'.length ≤ L.length + 1
  full : stE S K (chR ch) = 22 → Good (stS S K (chR ch)) (stK S K (chR ch)) L ∧ (stK S K (chR ch)).kv = K.kv
  others : ∀ k, ¬ Mine K.nm k → bts (stS S K (chR ch)) k = bts S k
  fits : used S.fs + (chR ch).size ≤ S.room → stE S K (chR ch) = 0
theorem heed22 : heedB 22 = false := by decide
theorem heed0 : heedB 0 = false := by decide
theorem fit_of {S : Dk} {r : ByteArray} (h : used S.fs + r.size ≤ S.room) : fitB S [r] = true := by
  unfold fitB; exact decide_eq_true h
theorem Good.write {S : Dk} {K : Ck} {L : List Sg} {ch : Ch} (h : Good S K L) (hc : Calm S) (hr : Rising S.fs) (hf : K.Fine) (hok : ch.Ok) (hnew : newN K < 999999) : Wrote S K L ch := by
  by_cases hl : 0 < K.left
  · have e1 : stE S K (chR ch) = layE S (chR ch) := if_pos hl
    have e2 : stS S K (chR ch) = layT S (fileB K.nm (newN K)) (chR ch) := if_pos hl
    have e3 : stK S K (chR ch) = { K with broken := heedB (layE S (chR ch)) } := if_pos hl
    obtain ⟨L0, x, rfl, hn, hs⟩ := h.name (hf.live hl)
    have ht : x.tl = [] := h.whole hl x (by simp)
    rcases hc.lay (fileB K.nm (newN K)) (chR ch) with ⟨q1, q2, q3, q4⟩ | ⟨q1, q2, q3⟩
    · refine ⟨.inl (e1.trans q1), by rw [e2]; exact q2, fun _ => ?_, fun e => ?_, fun k hk => ?_, fun _ => e1.trans q1⟩
      · rw [hn] at q4
        refine ⟨L0 ++ [⟨x.n, x.cs ++ [ch], []⟩], ?_, by simp, by simp⟩
        have hsd : Sound (stS S K (chR ch)) K.nm (L0 ++ [⟨x.n, x.cs ++ [ch], []⟩]) := by rw [e2, hn]; exact h.sound.more ht hok q4
        rw [e3, q1, heed0]
        refine ⟨hsd, ?_, ?_, ?_, fun _ y hy => ?_, ?_, rfl⟩
        · show K.segs = _
          rw [h.segs]; simp
        · show takeF ch K.kv = _
          rw [h.kv]; simp
        · show K.recs + 1 = _
          rw [h.recs]; simp; omega
        · simp at hy; rw [← hy]
        · show K.left - _ ≤ 4096
          have := h.lim; omega
      · rw [e1, q1] at e; cases e
      · rw [e2, q4, if_neg (fun e => hk (by rw [e]; exact mine_file _ _))]
    · refine ⟨.inr (e1.trans q1), by rw [e2, q2]; exact hc, fun e => ?_, fun _ => ?_, fun k hk => by rw [e2, q2], fun hfit => by rw [fit_of hfit] at q3; cases q3⟩
      · rw [e1, q1] at e; cases e
      · rw [e2, q2, e3, q1, heed22]
        exact ⟨⟨h.sound, h.segs, h.kv, h.recs, h.whole, h.lim, rfl⟩, rfl⟩
  · obtain ⟨s1, s2, s3, s4⟩ := h.sync hc hf
    obtain ⟨k1, k2, k3, k4, k5⟩ := csK_same S K
    obtain ⟨u1, u2, u3, u4⟩ := cs_sized hr K
    have e1 : stE S K (chR ch) = layE (csS S K) (chR ch) := by rw [stE, if_neg hl, bgE, if_pos s1]
    have e2 : stS S K (chR ch) = layT (csS S K) (bgF K) (chR ch) := by rw [stS, if_neg hl, bgS, if_pos s1]
    have hlt : ∀ x ∈ L, x.n < newN K + 1 := fun x hx => by
      have hne : K.segs ≠ [] := fun e => by
        have : x.n ∈ K.segs := by rw [h.segs]; exact List.mem_map.2 ⟨x, hx, rfl⟩
        rw [e] at this; cases this
      obtain ⟨L0, y, rfl, hn, _⟩ := h.name hne
      rw [hn]
      rcases List.mem_append.1 hx with hx | hx
      · have := h.sound.rise
        rw [List.map_append, List.pairwise_append] at this
        have := this.2.2 x.n (List.mem_map.2 ⟨x, hx, rfl⟩) y.n (by simp)
        omega
      · simp at hx; subst hx; omega
    rcases s2.lay (bgF K) (chR ch) with ⟨q1, q2, q3, q4⟩ | ⟨q1, q2, q3⟩
    · have e3 : stK S K (chR ch) = { csK S K with broken := false, segs := K.segs ++ [newN K + 1], left := 4096 } := by rw [stK, if_neg hl, bgK, if_pos s1, if_pos q1]
      refine ⟨.inl (e1.trans q1), by rw [e2]; exact q2, fun _ => ?_, fun e => ?_, fun k hk => ?_, fun _ => e1.trans q1⟩
      · refine ⟨L ++ [⟨newN K + 1, [ch], []⟩], ?_, by simp, by simp⟩
        have hsd : Sound (stS S K (chR ch)) K.nm (L ++ [⟨newN K + 1, [ch], []⟩]) := by
          rw [e2]
          exact (h.sound.of (fun k _ => s4 k)).begin hlt (by omega) (by omega) hok q4
        rw [e3]
        refine ⟨?_, ?_, ?_, ?_, fun _ y hy => ?_, ?_, rfl⟩
        · show Sound _ (csK S K).nm _
          rw [k1]; exact hsd
        · show K.segs ++ [newN K + 1] = _
          rw [h.segs]; simp
        · show takeF ch (csK S K).kv = _
          rw [k3, h.kv]; simp
        · show (csK S K).recs + 1 = _
          rw [k4, h.recs]; simp
        · simp at hy; rw [← hy]
        · show (4096 : Int) - _ ≤ 4096
          omega
      · rw [e1, q1] at e; cases e
      · rw [e2, q4, if_neg (fun e => hk (by rw [e]; exact mine_file _ _)), s4]
    · have e3 : stK S K (chR ch) = { csK S K with broken := heedB 22 } := by rw [stK, if_neg hl, bgK, if_pos s1, q1, if_neg (by decide)]
      refine ⟨.inr (e1.trans q1), by rw [e2, q2]; exact s2, fun e => ?_, fun _ => ?_, fun k hk => by rw [e2, q2, s4], fun hfit => ?_⟩
      · rw [e1, q1] at e; cases e
      · rw [e2, q2, e3, heed22]
        exact ⟨⟨s3.sound, s3.segs, s3.kv, s3.recs, s3.whole, s3.lim, rfl⟩, k3⟩
      · rw [← u1, ← u2] at hfit
        rw [fit_of hfit] at q3; cases q3
/-- A cask that is opened. -/
theorem Sound.opened {S : Dk} {nm : ByteArray} {L : List Sg} (h : Sound S nm L) (hc : Calm S) (hnm : capOk nm = true) : ldE S nm L = 0 ∧ Calm (ldS S nm L) ∧ Good (ldS S nm L) (ldK nm L) L ∧ ∀ k, bts (ldS S nm L) k = bts S k := by
  have hb : ldE S nm L = 0 ∧ Calm (ldS S nm L) ∧ ∀ k, bts (ldS S nm L) k = bts S k := by
    unfold ldE ldS
    cases hl : L.getLast? with
    | none => exact ⟨rfl, hc, fun _ => rfl⟩
    | some x =>
      have hx : x ∈ L := List.mem_of_getLast? hl
      exact hc.set (fileB nm x.n) (fileB_ok hnm _) (by rw [h.file x hx]; rfl)
  refine ⟨hb.1, hb.2.1, ⟨h.of (fun k _ => hb.2.2 k), rfl, rfl, rfl, fun e => ?_, ?_, rfl⟩, hb.2.2⟩
  · exact absurd e (by show ¬ (0 : Int) < 0; decide)
  · show (0 : Int) ≤ 4096; decide
theorem ld_sized {S : Dk} (hr : Rising S.fs) (nm : ByteArray) (L : List Sg) : used (ldS S nm L).fs = used S.fs ∧ (ldS S nm L).room = S.room ∧ (ldS S nm L).fs.length = S.fs.length ∧ Rising (ldS S nm L).fs := by
  unfold ldS
  split
  · exact set_sized hr _
  · exact ⟨rfl, rfl, rfl, hr⟩
end Go.Proofs.YtfmmholkeadejaaGreatDoor

/- What an open cask tells of itself. -/
namespace Go.Proofs.YtfmmholkeadejaaGreatDoor
open Go.RowKit Go.Maps Go.WideMaps

theorem meth_origin (x y : Value) (w : World) : (method 392 106 (.agg #[x, y]) "murmuration/cask.origin").run Tryz.prog w = .ok (262, .agg #[x, y]) w := by kernel_rfl
theorem sub_fine (a : Int) (n : Nat) (h : 0 ≤ a ∧ a < 4611686018427387904) (hn : n ≤ 16777216) : wrap64 (a - (n : Int)) = a - (n : Int) := by
  unfold wrap64; omega
theorem dead_some (N : Lo) (c d mb : Nat) (sv : Value) (S : Dk) (K : Ck) (w : World) (h : CaskOpen w N c d mb sv S K) : Calls Tryz.prog 25 #[.pointer (some ⟨c, 0, none⟩)] w fun e w' => e = .returned (.int .i64 (K.recs - (K.kv.length : Int))) ∧ Below w.heap.size w w' := by
  have c1 := h.holds.at 1 _ rfl
  have c2 := h.holds.at 2 _ rfl
  have hw := sub_fine K.recs K.kv.length h.fine.recs h.fine.size
  obtain ⟨n, D, hown, hat, hhas⟩ := h.keys.same (w' := w.drew) rfl
  have hsz := ckeys_size hown h.fine.rise hhas
  have hl : ∀ ty, (Builtin.len_ #[25] ty #[.map (some mb)]).run Tryz.prog w.drew = .ok (.int .i64 (K.kv.length : Int)) w.drew := fun ty => by rw [hown.len cund25 ty, hsz]
  clear h hat hhas hown hsz
  obtain ⟨R, hR⟩ : ∃ R, K.recs = R := ⟨_, rfl⟩
  obtain ⟨L, hL⟩ : ∃ L, K.kv.length = L := ⟨_, rfl⟩
  rw [hR, hL] at hw
  rw [hL] at hl
  rw [hR] at c2
  rw [hR, hL]
  go_enter Tryz.func25, Tryz.ntmps25
  go_wp2
  go_region
  all_goals
    go_wp2
    go_ret
    exact ⟨congrArg (fun x => Ending.returned (Value.int .i64 x)) hw, (Below.refl _ _).drew⟩
theorem broken_some (c d mb : Nat) (sv : Value) (K : Ck) (w : World) (h : Holds w c (ckV d mb sv K) 28) : Calls Tryz.prog 28 #[.pointer (some ⟨c, 0, none⟩)] w fun e w' => e = .returned (.bool K.broken) ∧ w' = w := by
  have c6 := h.at 6 _ rfl
  go_enter Tryz.func28, Tryz.ntmps28
  go_wp2
  go_ret
  exact ⟨rfl, rfl⟩
theorem origin_any (x : Option Addr) (nm : ByteArray) (w : World) : Calls Tryz.prog 262 #[.agg #[.pointer x, .string nm]] w fun e w' => e = .returned (.tuple #[.pointer x, .string nm]) ∧ Below w.heap.size w w' := by
  go_enter Tryz.func262, Tryz.ntmps262
  go_wp2
  go_region
  all_goals
    go_wp2
    go_ret2
    exact ⟨rfl, ((Below.refl _ _).alloc (Nat.le_refl _) _).drew⟩
set_option maxRecDepth 100000 in
theorem name_some (c d mb : Nat) (sv : Value) (K : Ck) (w : World) (h : Holds w c (ckV d mb sv K) 28) : Calls Tryz.prog 26 #[.pointer (some ⟨c, 0, none⟩)] w fun e w' => e = .returned (.string K.nm) ∧ Below w.heap.size w w' := by
  have hn := none_some c d mb sv K w h
  have c0 := h.at 0 _ rfl
  unfold shV at c0
  have hmt := @meth_origin
  have ho := origin_any (some ⟨d, 0, none⟩) K.nm w
  go_enter Tryz.func26, Tryz.ntmps26
  go_wp2_with (first | (go_at_call 66; refine hn.mono ?_; rintro e w1 ⟨rfl, e1⟩; rw [e1]; clear e1) | (go_at_call 262; refine ho.mono ?_; rintro e w2 ⟨rfl, hB⟩))
  go_ret
  exact ⟨rfl, hB⟩
set_option maxRecDepth 100000 in
theorem disk_some (c d mb : Nat) (sv : Value) (K : Ck) (w : World) (h : Holds w c (ckV d mb sv K) 28) : Calls Tryz.prog 27 #[.pointer (some ⟨c, 0, none⟩)] w fun e w' => e = .returned (.pointer (some ⟨d, 0, none⟩)) ∧ Below w.heap.size w w' := by
  have hn := none_some c d mb sv K w h
  have c0 := h.at 0 _ rfl
  unfold shV at c0
  have hmt := @meth_origin
  have ho := origin_any (some ⟨d, 0, none⟩) K.nm w
  go_enter Tryz.func27, Tryz.ntmps27
  go_wp2_with (first | (go_at_call 66; refine hn.mono ?_; rintro e w1 ⟨rfl, e1⟩; rw [e1]; clear e1) | (go_at_call 262; refine ho.mono ?_; rintro e w2 ⟨rfl, hB⟩))
  go_ret
  exact ⟨rfl, hB⟩
theorem und26 : Tryz.prog.underlying 26 = some (.slice 3) := by kernel_rfl
set_option maxHeartbeats 1000000 in
set_option maxRecDepth 100000 in
theorem clone_row (B : Nat) (sv : Value) (n : Nat) (xs : List Value) (w : World) (h : w.ownsRow B 3 1 sv n xs) (hn : n ≤ 16777216) (h1 : ∀ u ∈ xs, u.oneCell' = true) : Calls Tryz.prog 65 #[sv] w fun e w' => ∃ v', e = .returned v' ∧ w'.ownsRow w.heap.size 3 1 v' n xs ∧ Below w.heap.size w w' := by
  have q26 : ∀ (w : World) (a : Option Addr) (n c n' c' : Nat), (binOp .eql 26 (.slice a n c) (.slice none n' c')).run Tryz.prog w = .ok (.bool a.isNone) w := fun w a n c n' c' => Lib.run_eql_slice_nil w _ _ a n c n' c' und26
  have u26 : ∀ w, Sem.run Tryz.prog (underlying 26) w = .ok (TypeDesc.slice 3) w := run_underlying und26
  rcases h.2 with ⟨rfl, h0⟩ | ⟨g, cap, cur, rfl, _⟩
  · subst h0
    have hx : xs = [] := List.eq_nil_of_length_eq_zero (by simpa using h.1)
    subst hx
    go_enter Tryz.func65, Tryz.ntmps65
    go_wp2
    go_ret
    exact ⟨_, rfl, ⟨rfl, .inl ⟨rfl, rfl⟩⟩, Below.refl _ _⟩
  · obtain ⟨i0, hi, hz0, hz1, hz2⟩ : ∃ i, Tryz.prog.info? 3 = some i ∧ i.zero = some (.int .i64 0) ∧ i.size = 1 ∧ i.bytes = 8 := ⟨_, rfl, rfl, rfl, rfl⟩
    have hc : Hid (∀ j u, xs[j]? = some u → w.cell? ⟨g, j, none⟩ = some u) := fun j u hj => by
      have := h.cellAt j (by have := (List.getElem?_eq_some_iff.1 hj).1; have := h.1; omega)
      rw [hj] at this
      exact this
    have hl := h.1
    clear h
    go_enter Tryz.func65, Tryz.ntmps65
    go_wp2_with (at_builtin; refine wpList_append_src rfl _ _ 26 rfl w.heap.size 3 i0 (.int .i64 0) 1 8 und26 hi hz0 hz1 hz2 rfl (by decide) _ 0 _ (World.ownsRow_made w #[] 0 (Nat.le_refl _) (Nat.zero_le _) rfl) rfl xs (some ⟨g, 0, none⟩) n cap rfl ?qc1 ?qc2 ?qc3 ?qc4 ?qc5 ?qc6 ?_)
    case qc1 => simpa using hl
    case qc2 =>
      intro _
      refine ⟨_, rfl, fun j u hj => ?_⟩
      rw [Addr.add_lit]
      refine Lib.cell?_alloc_some _ ?_
      rw [Nat.zero_add]
      exact hc.out j u hj
    case qc3 => exact h1
    case qc4 => unfold maxLen; omega
    case qc5 => omega
    case qc6 => simp
    intro v' w1 hown hgrow hnil
    go_wp2
    go_ret
    refine ⟨v', rfl, by simpa using hown, ?_⟩
    exact ((Below.refl _ w).alloc (Nat.le_refl _) _).grown hgrow (by simp) (by intro k hk; simp [Value.ownBlock] at hk; omega)
theorem segments_some (N : Lo) (c d mb : Nat) (sv : Value) (S : Dk) (K : Ck) (w : World) (h : CaskOpen w N c d mb sv S K) : Calls Tryz.prog 24 #[.pointer (some ⟨c, 0, none⟩)] w fun e w' => ∃ v', e = .returned v' ∧ w'.ownsRow w.heap.size 3 1 v' K.segs.length (segV K.segs) ∧ Below w.heap.size w w' := by
  have c3 := h.holds.at 3 _ rfl
  have hc := clone_row N sv _ _ w h.row h.fine.many (by intro u hu; simp [segV] at hu; obtain ⟨x, _, rfl⟩ := hu; rfl)
  clear h
  go_enter Tryz.func24, Tryz.ntmps24
  go_wp2_with (go_at_call 65; refine hc.mono ?_; rintro e w1 ⟨v', rfl, hB⟩)
  go_ret
  exact ⟨v', rfl, hB⟩
end Go.Proofs.YtfmmholkeadejaaGreatDoor

/- Reopen (21) of segments that are right up to a torn end. -/
namespace Go.Proofs.YtfmmholkeadejaaGreatDoor
open Go.RowKit Go.Maps Go.WideMaps

/-- Cells of a cask's block are written, and nothing else. -/
structure CWrt (c : Nat) (N : Lo) (d : Nat) (S : Dk) (w w' : World) (cs : List Value) : Prop where
  os : w'.os = w.os
  tape : w'.tape = w.tape
  output : w'.output = w.output
  size : w'.heap.size = w.heap.size
  block : ∀ i, i ≠ c → w'.heap[i]? = w.heap[i]?
  disk : DiskAt w' N d S
  holds : Holds w' c cs 28
theorem CWrt.set {c : Nat} {N : Lo} {d : Nat} {S : Dk} {w w' : World} {cs : List Value} (h : CWrt c N d S w w' cs) (i : Nat) (v : Value) : CWrt c N d S w (w'.setCell ⟨c, i, none⟩ v) (cs.set i v) :=
  ⟨h.os, h.tape, h.output, by simpa using h.size, fun j hj => (heap_setCell_other w' ⟨c, i, none⟩ j v hj).trans (h.block j hj), h.disk.setOther c i v _ 28 h.holds (by decide) (by decide) (by decide), h.holds.set i v⟩
theorem CWrt.drew {c : Nat} {N : Lo} {d : Nat} {S : Dk} {w w' : World} {cs : List Value} (h : CWrt c N d S w w' cs) : CWrt c N d S w w'.drew cs :=
  ⟨h.os, h.tape, h.output, h.size, h.block, h.disk.drew, h.holds⟩
theorem CWrt.cask {c c2 : Nat} {N : Lo} {d mb2 : Nat} {sv2 : Value} {S : Dk} {w w' : World} {K : Ck} {cs0 : List Value} (h : CWrt c N d S w w' (ckV d mb2 sv2 K)) (o : CaskOpen w N c2 d mb2 sv2 S K) (h0 : Holds w c cs0 28) (hc : N ≤ c) : CaskOpen w' N c d mb2 sv2 S K := by
  refine ⟨h.holds, hc, o.guard2, fun i hi => by rw [h.size]; exact o.lt i hi, ?_, ?_, h.disk, o.fine⟩
  · refine o.keys.same (h.block mb2 fun e => ?_)
    obtain ⟨es, k, q⟩ := o.keys.isMap
    unfold Holds at h0
    rw [e, h0] at q; cases q
  · refine row_same o.row (fun i cs fr hi => h.block i fun e => ?_)
    unfold Holds at h0
    rw [e, h0] at hi
    simp at hi
theorem CWrt.cupd {c : Nat} {N N' : Lo} {d : Nat} {S : Dk} {w0 w w' : World} {cs : List Value} (h : CWrt c N d S w w' cs) (hu : DUpd N' w0 w) : CUpd N' (fun i => i = c) w0 w' :=
  ⟨h.os.trans hu.os, h.tape.trans hu.tape, h.output.trans hu.output, by rw [h.size]; exact hu.size, fun i hi hl hc => (h.block i hl).trans (hu.block i hi hc)⟩
theorem CWrt.all {c : Nat} {N : Lo} {d mb mb2 : Nat} {sv sv2 : Value} {S : Dk} {w : World} {K K2 : Ck} (h : CWrt c N d S w w (ckV d mb sv K)) (hk : K2.broken = false) : CWrt c N d S w (((((((w.setCell ⟨c, 0, none⟩ (.iface 106 (.agg #[.pointer (some ⟨d, 0, none⟩), .string K2.nm]))).setCell ⟨c, 1, none⟩ (.map (some mb2))).setCell ⟨c, 2, none⟩ (.int .i64 K2.recs)).setCell ⟨c, 3, none⟩ sv2).setCell ⟨c, 4, none⟩ (.int .i64 K2.left)).setCell ⟨c, 5, none⟩ (.bool K2.loose)).setCell ⟨c, 6, none⟩ (.bool false)) (ckV d mb2 sv2 K2) := by
  have q := ((((((h.set 0 (.iface 106 (.agg #[.pointer (some ⟨d, 0, none⟩), .string K2.nm]))).set 1 (.map (some mb2))).set 2 (.int .i64 K2.recs)).set 3 sv2).set 4 (.int .i64 K2.left)).set 5 (.bool K2.loose)).set 6 (.bool false)
  have e : ckV d mb2 sv2 K2 = [shV d K2.nm, .map (some mb2), .int .i64 K2.recs, sv2, .int .i64 K2.left, .bool K2.loose, .bool false] := by rw [ckV, hk]
  rw [e]
  exact q
set_option maxHeartbeats 2000000 in
set_option maxRecDepth 100000 in
theorem reopen_ok (N : Lo) (c d mb : Nat) (sv : Value) (S : Dk) (K : Ck) (hon : S.on = true) (L : List Sg) (hL : listK S (K.nm ++ (⟨#[46]⟩ : ByteArray)) = L.map fun x => (fileB K.nm x.n).data.toList) (hln : L.length ≤ 256) (hseg : ∀ x ∈ L, SgOn S K.nm x) (hmany : (L.flatMap Sg.cs).length ≤ 16777215) (w : World) (h : CaskOpen w N c d mb sv S K) (hN : N ≤ w.heap.size) (hT : Tab N w) (hb : K.broken = false) (hE : ldE S K.nm L = 0) :
    Calls Tryz.prog 21 #[.pointer (some ⟨c, 0, none⟩)] w fun e w' => e = .returned (.int .i64 0) ∧ ∃ mb2 sv2, CaskOpen w' (N.with mb2) c d mb2 sv2 (ldS S K.nm L) (ldK K.nm L) ∧ w.heap.size ≤ mb2 ∧ CUpd N (fun i => i = c) w w' := by
  have hr := ready_ok c d mb sv K w h.holds hb
  have c0 := h.holds.at 0 _ rfl
  unfold shV at c0
  have hmt := @meth_origin
  have ho := origin_any (some ⟨d, 0, none⟩) K.nm w
  obtain ⟨K2, hK2⟩ : ∃ K2, ldK K.nm L = K2 := ⟨_, rfl⟩
  have hk2 : K2.broken = false := by rw [← hK2]; rfl
  have hop : Hid (∀ W, Below w.heap.size w W → Calls Tryz.prog 16 #[.pointer (some ⟨d, 0, none⟩), .string K.nm] W fun e w' => ∃ c2 mb2 sv2, e = .returned (.tuple #[.pointer (some ⟨c2, 0, none⟩), .int .i64 0]) ∧ Holds w' c2 (ckV d mb2 sv2 K2) 28 ∧ Holds w' c (ckV d mb sv K) 28 ∧ c2 ≠ c ∧ CaskOpen w' (N.with mb2) c2 d mb2 sv2 (ldS S K.nm L) K2 ∧ w.heap.size ≤ mb2 ∧ DUpd N w w') := fun W hW => by
    refine (open_some N d S hon K.nm h.fine.nm L hL hln hseg hmany W (h.disk.below hW) (Nat.le_trans hN hW.size) (hT.on (hW.mono hN)) (fun i hi => Nat.lt_of_lt_of_le (h.lt i hi) hW.size)).mono ?_
    rintro e w' ⟨c2, mb2, sv2, rfl, o2, ⟨g1, g2⟩, u2⟩
    have hu : DUpd N w w' := (DUpd.ofBelow hW).trans u2
    have hlt := h.holds.lt
    have hs := hW.size
    rw [hK2] at o2
    exact ⟨c2, mb2, sv2, by rw [hE, opV, if_pos rfl], o2.holds, h.holds.dupd hu (by decide) (by decide) (by decide), by omega, o2, by omega, hu⟩
  have hhe : Hid (∀ W0 W mb2 sv2 c2, Holds W0 c (ckV d mb sv K) 28 → CaskOpen W0 (N.with mb2) c2 d mb2 sv2 (ldS S K.nm L) K2 → DUpd N w W0 → CWrt c (N.with mb2) d (ldS S K.nm L) W0 W (ckV d mb2 sv2 K2) → Calls Tryz.prog 59 #[.pointer (some ⟨c, 0, none⟩), .int .i64 0] W fun e w' => e = .returned (.int .i64 0) ∧ CaskOpen w' (N.with mb2) c d mb2 sv2 (ldS S K.nm L) K2 ∧ CUpd N (fun i => i = c) w w') := fun W0 W mb2 sv2 c2 h0 o2 hu hw => by
    refine (heed_some c d mb2 sv2 K2 0 W hw.holds).mono ?_
    rintro e w' ⟨q, rfl⟩
    have hw' := hw.set 6 (.bool (heedB 0))
    have e6 : (ckV d mb2 sv2 K2).set 6 (.bool (heedB 0)) = ckV d mb2 sv2 K2 := by
      have : heedB 0 = K2.broken := by rw [hk2]; rfl
      rw [this]; rfl
    rw [e6] at hw'
    exact ⟨q, hw'.cask o2 h0 h.le, hw'.cupd hu⟩
  rw [hK2]
  generalize ldS S K.nm L = S2 at *
  clear hT hseg hmany hL hln hon hN hE h
  have hwr : Hid (∀ W0 mb2, Holds W0 c (ckV d mb sv K) 28 → DiskAt W0 (N.with mb2) d S2 → CWrt c (N.with mb2) d S2 W0 W0 (ckV d mb sv K)) := fun W0 mb2 a b => ⟨rfl, rfl, rfl, rfl, fun _ _ => rfl, b, a⟩
  go_enter Tryz.func21, Tryz.ntmps21
  go_wp2_with (first
    | (go_at_call 56; refine hr.out.mono ?_; rintro e w1 ⟨rfl, e1⟩; rw [e1]; clear e1)
    | (go_at_call 262; refine ho.mono ?_; rintro e w2 ⟨rfl, hB⟩)
    | (go_at_call 16; refine (hop.out w2 hB).mono ?_; rintro e w3 ⟨c2, mb2, sv2, rfl, hh, hh2, hne, o2, hm2, u2⟩; obtain ⟨sa, sc, rfl⟩ := row_slice o2.row; have A : Hid (CaskOpen w3 (N.with mb2) c2 d mb2 (.slice sa K2.segs.length sc) S2 K2 ∧ Holds w3 c (ckV d mb sv K) 28 ∧ w.heap.size ≤ mb2 ∧ DUpd N w w3) := ⟨o2, hh2, hm2, u2⟩; have k0 := hh.at 0 _ rfl; have k1 := hh.at 1 _ rfl; have k2 := hh.at 2 _ rfl; have k3 := hh.at 3 _ rfl; have k4 := hh.at 4 _ rfl; have k5 := hh.at 5 _ rfl; have k6 := hh.at 6 _ rfl; have m0 := hh2.at 0 _ rfl; have m1 := hh2.at 1 _ rfl; have m2 := hh2.at 2 _ rfl; have m3 := hh2.at 3 _ rfl; have m4 := hh2.at 4 _ rfl; have m5 := hh2.at 5 _ rfl; have m6 := hh2.at 6 _ rfl; have f0 := hh2.frozen 0; have f1 := hh2.frozen 1; have f2 := hh2.frozen 2; have f3 := hh2.frozen 3; have f4 := hh2.frozen 4; have f5 := hh2.frozen 5; have f6 := hh2.frozen 6; clear hh hh2 o2 hm2 u2 hne; unfold shV at k0 m0)
    | (go_at_call 59; refine (hhe.out w3 _ mb2 (.slice sa K2.segs.length sc) c2 A.out.2.1 A.out.1 A.out.2.2.2 ((hwr.out w3 mb2 A.out.2.1 A.out.1.disk).all hk2)).mono ?_; rintro e w4 ⟨rfl, o4, u4⟩))
  go_ret
  exact ⟨rfl, mb2, _, o4, A.out.2.2.1, u4⟩
set_option maxHeartbeats 2000000 in
set_option maxRecDepth 100000 in
theorem reopen_bad (N : Lo) (c d mb : Nat) (sv : Value) (S : Dk) (K : Ck) (hon : S.on = true) (L : List Sg) (hL : listK S (K.nm ++ (⟨#[46]⟩ : ByteArray)) = L.map fun x => (fileB K.nm x.n).data.toList) (hln : L.length ≤ 256) (hseg : ∀ x ∈ L, SgOn S K.nm x) (hmany : (L.flatMap Sg.cs).length ≤ 16777215) (w : World) (h : CaskOpen w N c d mb sv S K) (hN : N ≤ w.heap.size) (hT : Tab N w) (hb : K.broken = false) (hE : ldE S K.nm L ≠ 0) :
    Calls Tryz.prog 21 #[.pointer (some ⟨c, 0, none⟩)] w fun e w' => e = .returned (.int .i64 (ldE S K.nm L)) ∧ CaskOpen w' N c d mb sv (ldS S K.nm L) { K with broken := heedB (ldE S K.nm L) } ∧ CUpd N (fun i => i = c) w w' := by
  have hr := ready_ok c d mb sv K w h.holds hb
  have c0 := h.holds.at 0 _ rfl
  unfold shV at c0
  have hmt := @meth_origin
  have ho := origin_any (some ⟨d, 0, none⟩) K.nm w
  have hop : Hid (∀ W, Below w.heap.size w W → Calls Tryz.prog 16 #[.pointer (some ⟨d, 0, none⟩), .string K.nm] W fun e w' => e = .returned (.tuple #[.pointer none, .int .i64 (ldE S K.nm L)]) ∧ CaskOpen w' N c d mb sv (ldS S K.nm L) K ∧ DUpd N w w') := fun W hW => by
    refine (open_some N d S hon K.nm h.fine.nm L hL hln hseg hmany W (h.disk.below hW) (Nat.le_trans hN hW.size) (hT.on (hW.mono hN)) (fun i hi => Nat.lt_of_lt_of_le (h.lt i hi) hW.size)).mono ?_
    rintro e w' ⟨c2, mb2, sv2, rfl, o2, _, u2⟩
    have hu : DUpd N w w' := (DUpd.ofBelow hW).trans u2
    exact ⟨by rw [opV, if_neg hE], h.dupd hu o2.disk.free, hu⟩
  have hhe : Hid (∀ W, CaskOpen W N c d mb sv (ldS S K.nm L) K → DUpd N w W → Calls Tryz.prog 59 #[.pointer (some ⟨c, 0, none⟩), .int .i64 (ldE S K.nm L)] W fun e w' => e = .returned (.int .i64 (ldE S K.nm L)) ∧ CaskOpen w' N c d mb sv (ldS S K.nm L) { K with broken := heedB (ldE S K.nm L) } ∧ CUpd N (fun i => i = c) w w') := fun W o hu => by
    refine (heed_some c d mb sv K _ W o.holds).mono ?_
    rintro e w' ⟨q, rfl⟩
    refine ⟨q, o.put 6 _ rfl rfl rfl ⟨o.fine.rise, o.fine.nm, o.fine.segs, o.fine.many, o.fine.keys, o.fine.size, o.fine.recs, o.fine.left, o.fine.busy, o.fine.live⟩, (CUpd.ofD hu).set c 6 _ rfl⟩
  clear hT hseg hmany hL hln hon hN h
  generalize ldS S K.nm L = S2 at *
  generalize ldE S K.nm L = E at *
  have hE1 : (E == 0) = false := by simpa using hE
  go_enter Tryz.func21, Tryz.ntmps21
  go_wp2_with (first
    | (go_at_call 56; refine hr.out.mono ?_; rintro e w1 ⟨rfl, e1⟩; rw [e1]; clear e1)
    | (go_at_call 262; refine ho.mono ?_; rintro e w2 ⟨rfl, hB⟩)
    | (go_at_call 16; refine (hop.out w2 hB).mono ?_; rintro e w3 ⟨rfl, o3, u3⟩; have A : Hid (CaskOpen w3 N c d mb sv S2 K ∧ DUpd N w w3) := ⟨o3, u3⟩; clear o3 u3)
    | (go_at_call 59; refine (hhe.out w3 A.out.1 A.out.2).mono ?_; rintro e w4 ⟨rfl, o4⟩))
  go_ret
  exact ⟨rfl, o4⟩
end Go.Proofs.YtfmmholkeadejaaGreatDoor

/- A cask as a law holds it: the calls, one behind the other. -/
namespace Go.Proofs.YtfmmholkeadejaaGreatDoor
open Go.RowKit Go.Maps Go.WideMaps

/-- Rows that are neither a disk's nor a cask's are as they were. -/
def Oth (w w' : World) : Prop := ∀ (i : Nat) cs t fr, w.heap[i]? = some (Obj.cells cs t fr) → t ≠ 122 → t ≠ 128 → t ≠ 5 → t ≠ 28 → t ≠ 3 → w'.heap[i]? = w.heap[i]?
theorem Oth.refl (w : World) : Oth w w := fun _ _ _ _ _ _ _ _ _ _ => rfl
theorem Oth.trans {x y z : World} (h : Oth x y) (k : Oth y z) : Oth x z := fun i cs t fr hi h1 h2 h3 h4 h5 => by
  have e := h i cs t fr hi h1 h2 h3 h4 h5
  exact (k i cs t fr (e.trans hi) h1 h2 h3 h4 h5).trans e
theorem Oth.ofBelow {w w' : World} (h : Below w.heap.size w w') : Oth w w' := fun i _ _ _ hi _ _ _ _ _ => h.block i (Array.getElem?_eq_some_iff.1 hi).1
theorem Oth.ofD {N : Lo} {w w' : World} (h : DUpd N w w') : Oth w w' := fun i cs t fr hi h1 h2 h3 _ _ => h.block i (Array.getElem?_eq_some_iff.1 hi).1 (.inr ⟨cs, t, fr, hi, h1, h2, h3⟩)
theorem CaskOpen.oth {w w' : World} {N : Lo} {c d mb : Nat} {sv : Value} {S : Dk} {K : Ck} (h : CaskOpen w N c d mb sv S K) {L : Nat → Prop} (hL : ∀ i, L i → Own c mb sv i) (hu : CUpd N L w w') : Oth w w' := fun i cs t fr hi h1 h2 h3 h4 h5 =>
  hu.block i (Array.getElem?_eq_some_iff.1 hi).1 (fun q => by
    rcases hL i q with rfl | rfl | q
    · have q2 := h.holds
      unfold Holds at q2
      rw [q2] at hi
      simp at hi
      exact h4 hi.2.1.symm
    · obtain ⟨es, cl, q2⟩ := h.keys.isMap
      rw [q2] at hi; cases hi
    · rcases h.row.2 with ⟨q2, _⟩ | ⟨g, cap, cur, q2, hb, hg, r⟩
      · rw [q2] at q; cases q
      · rw [q2] at q
        obtain rfl : g = i := by simpa [Value.ownBlock] using q
        rw [hg] at hi
        simp at hi
        exact h5 hi.2.1.symm) (.inr ⟨cs, t, fr, hi, h1, h2, h3⟩)
theorem Oth.row {w w' : World} (h : Oth w w') {base : Nat} {e : TypeId} {size : Nat} {v : Value} {n : Nat} {xs : List Value} (hr : w.ownsRow base e size v n xs) (h1 : e ≠ 122) (h2 : e ≠ 128) (h3 : e ≠ 5) (h4 : e ≠ 28) (h5 : e ≠ 3) : w'.ownsRow base e size v n xs :=
  row_same hr (fun i cs fr hi => h i cs e fr hi h1 h2 h3 h4 h5)
/-- A cask on its disk, in the middle of a law that began at w0. -/
structure Cur (w0 W : World) (N : Lo) (c d mb : Nat) (S : Dk) (K : Ck) : Prop where
  op : ∃ sv, CaskOpen W N c d mb sv S K
  lo : N.n = w0.heap.size
  tab : Tab N W
  bel : Below w0.heap.size w0 W
theorem Cur.sz {w0 W : World} {N : Lo} {c d mb : Nat} {S : Dk} {K : Ck} (h : Cur w0 W N c d mb S K) : N ≤ W.heap.size := by
  show N.n ≤ _
  rw [h.lo]; exact h.bel.size
theorem Cur.fine {w0 W : World} {N : Lo} {c d mb : Nat} {S : Dk} {K : Ck} (h : Cur w0 W N c d mb S K) : K.Fine := by
  obtain ⟨sv, h⟩ := h.op; exact h.fine
theorem Cur.dfine {w0 W : World} {N : Lo} {c d mb : Nat} {S : Dk} {K : Ck} (h : Cur w0 W N c d mb S K) : S.Fine := by
  obtain ⟨sv, h⟩ := h.op
  obtain ⟨mv, st, A, V, q1, q2, q3, q4, q5⟩ := h.disk
  exact q5.toFine
theorem CaskOpen.below {w w' : World} {N : Lo} {c d mb : Nat} {sv : Value} {S : Dk} {K : Ck} (h : CaskOpen w N c d mb sv S K) (hb : Below w.heap.size w w') : CaskOpen w' N c d mb sv S K := h.dupd (DUpd.ofBelow hb) (h.disk.below hb)
theorem Cur.below {w0 W W' : World} {N : Lo} {c d mb : Nat} {S : Dk} {K : Ck} (h : Cur w0 W N c d mb S K) (hb : Below W.heap.size W W') : Cur w0 W' N c d mb S K := by
  obtain ⟨sv, o⟩ := h.op
  exact ⟨⟨sv, o.below hb⟩, h.lo, h.tab.on (hb.mono h.sz), h.bel.trans (hb.mono h.bel.size)⟩
theorem Cur.next {w0 W W' : World} {N : Lo} {c d mb : Nat} {sv : Value} {S S' : Dk} {K K' : Ck} (h : Cur w0 W N c d mb S K) (o : CaskOpen W N c d mb sv S K) {L : Nat → Prop} (hL : ∀ i, L i → Own c mb sv i) (hu : CUpd N L W W') (ho : ∃ sv', CaskOpen W' N c d mb sv' S' K') : Cur w0 W' N c d mb S' K' ∧ Oth W W' := by
  have hB : Below N W W' := hu.below h.sz (fun i hi => o.own i (hL i hi))
  exact ⟨⟨ho, h.lo, h.tab.on hB, h.bel.trans (by have := h.lo; rw [← this]; exact hB)⟩, o.oth hL hu⟩
theorem room_of {w0 W : World} {N : Lo} {c d mb : Nat} {S : Dk} {K : Ck} {L : List Sg} (h : Cur w0 W N c d mb S K) (g : Good S K L) (hl : S.fs.length < 256) (hn : newN K < 999999) (hm : (L.flatMap Sg.cs).length < 16777216) (hs : L.length < 16777216) : Room4 S K := by
  have hr := h.dfine.rise
  refine ⟨g.lim, hl, by rw [(cs_sized hr K).2.2.1]; exact hl, hn, by rw [g.segs, List.length_map]; exact hs, ?_, by rw [g.recs]; omega⟩
  rw [g.kv]
  exact Nat.lt_of_le_of_lt (ldC_len K.nm (L.flatMap Sg.cs) []) hm
/-- Put of a change that may be. -/
theorem cur_put {w0 W : World} {N : Lo} {c d mb : Nat} {S : Dk} {K : Ck} (h : Cur w0 W N c d mb S K) (k v : ByteArray) (hE : cfE k v = 0) (hb : K.broken = false) (hR : Room4 S K) :
    Calls Tryz.prog 18 #[.pointer (some ⟨c, 0, none⟩), .string k, .string v] W fun e w' => e = .returned (.int .i64 (stE S K (chR ⟨k, v, false⟩))) ∧ Cur w0 w' N c d mb (stS S K (chR ⟨k, v, false⟩)) (if stE S K (chR ⟨k, v, false⟩) = 0 then laidK (stK S K (chR ⟨k, v, false⟩)) ⟨k, v, false⟩ else stK S K (chR ⟨k, v, false⟩)) ∧ Oth W w' := by
  obtain ⟨sv, o⟩ := h.op
  exact (put_some N c d mb sv S K k v hE W o h.sz h.tab hb hR).mono fun e w' ⟨e1, e2, e3⟩ => ⟨e1, h.next o (fun _ q => q) e3 e2⟩
theorem cur_put_bad {w0 W : World} {N : Lo} {c d mb : Nat} {S : Dk} {K : Ck} (h : Cur w0 W N c d mb S K) (k v : ByteArray) (hE : cfE k v ≠ 0) (hb : K.broken = false) :
    Calls Tryz.prog 18 #[.pointer (some ⟨c, 0, none⟩), .string k, .string v] W fun e w' => e = .returned (.int .i64 (cfE k v)) ∧ Cur w0 w' N c d mb S K ∧ Oth W w' := by
  obtain ⟨sv, o⟩ := h.op
  exact (put_bad c d mb sv K k v W o.holds hb hE).mono fun e w' ⟨e1, e2⟩ => ⟨e1, h.below e2, Oth.ofBelow e2⟩
/-- Delete of one key. -/
theorem cur_del {w0 W : World} {N : Lo} {c d mb : Nat} {S : Dk} {K : Ck} (h : Cur w0 W N c d mb S K) (s : ByteArray) (hE : cfE s ⟨#[]⟩ = 0) (g q : Nat) (f : Fl) (hg : get K.kv s.data.toList = some f) (hk : W.cell? ⟨g, 0, none⟩ = some (.string s)) (hb : K.broken = false) (hR : Room4 S K) :
    Calls Tryz.prog 19 #[.pointer (some ⟨c, 0, none⟩), .slice (some ⟨g, 0, none⟩) 1 q] W fun e w' => e = .returned (.int .i64 (stE S K (chR ⟨s, ⟨#[]⟩, true⟩))) ∧ Cur w0 w' N c d mb (stS S K (chR ⟨s, ⟨#[]⟩, true⟩)) (if stE S K (chR ⟨s, ⟨#[]⟩, true⟩) = 0 then laidK (stK S K (chR ⟨s, ⟨#[]⟩, true⟩)) ⟨s, ⟨#[]⟩, true⟩ else stK S K (chR ⟨s, ⟨#[]⟩, true⟩)) ∧ Oth W w' := by
  obtain ⟨sv, o⟩ := h.op
  exact (delete_some N c d mb sv S K s hE g q f W o h.sz h.tab hb hR hg hk).mono fun e w' ⟨e1, e2, e3⟩ => ⟨e1, h.next o (fun _ q => q) e3 e2⟩
theorem cur_del_gone {w0 W : World} {N : Lo} {c d mb : Nat} {S : Dk} {K : Ck} (h : Cur w0 W N c d mb S K) (s : ByteArray) (hs : s.size ≤ maxLen) (g q : Nat) (hg : get K.kv s.data.toList = none) (hk : W.cell? ⟨g, 0, none⟩ = some (.string s)) (hb : K.broken = false) :
    Calls Tryz.prog 19 #[.pointer (some ⟨c, 0, none⟩), .slice (some ⟨g, 0, none⟩) 1 q] W fun e w' => e = .returned (.int .i64 21) ∧ Cur w0 w' N c d mb S K ∧ Oth W w' := by
  obtain ⟨sv, o⟩ := h.op
  exact (delete_gone N c d mb sv S K s hs g q W o hb hg hk).mono fun e w' ⟨e1, e2⟩ => ⟨e1, h.below e2, Oth.ofBelow e2⟩
theorem cur_get {w0 W : World} {N : Lo} {c d mb : Nat} {S : Dk} {K : Ck} (h : Cur w0 W N c d mb S K) (s : ByteArray) (hs : s.size ≤ maxLen) (hb : K.broken = false) :
    Calls Tryz.prog 15 #[.pointer (some ⟨c, 0, none⟩), .string s] W fun e w' => e = .returned (.tuple #[.string (getV K.kv s), .int .i64 (getE K.kv s)]) ∧ Cur w0 w' N c d mb S K ∧ Oth W w' := by
  obtain ⟨sv, o⟩ := h.op
  exact (get_some N c d mb sv S K s hs W o hb).mono fun e w' ⟨e1, e2⟩ => ⟨e1, h.below e2, Oth.ofBelow e2⟩
/-- A list of pairs that Fold has told. -/
theorem prs_of_row {W : World} {m : Nat} {v : Value} {l : List Pr} (h : W.ownsRow m 103 2 v l.length (cellsP l)) : PrsAt W v l := by
  rcases own_holdsP h rfl with ⟨rfl, rfl⟩ | ⟨g, cap, tl, rfl, hg, hcap, hcm, htl, hH⟩
  · exact ⟨_, _, rfl, fun e => absurd rfl e⟩
  · refine ⟨_, _, rfl, fun _ => ⟨g, 0, rfl, hH.lt, fun i p e => ?_⟩⟩
    obtain ⟨h1, h2⟩ := cellsP_at e tl
    rw [Nat.zero_add]
    exact ⟨hH.at _ _ h1, hH.at _ _ h2⟩
theorem kvL_len (kv : Fs) : (kvL kv).length = kv.length := by simp [kvL]
theorem cur_fold {w0 W : World} {N : Lo} {c d mb : Nat} {S : Dk} {K : Ck} (h : Cur w0 W N c d mb S K) :
    Calls Tryz.prog 23 #[.pointer (some ⟨c, 0, none⟩)] W fun e w' => ∃ v, e = .returned v ∧ w'.ownsRow W.heap.size 103 2 v (kvL K.kv).length (cellsP (kvL K.kv)) ∧ Cur w0 w' N c d mb S K ∧ Oth W w' := by
  obtain ⟨sv, o⟩ := h.op
  exact (fold_some N c d mb sv S K W o).mono fun e w' ⟨v, e1, e2, e3⟩ => ⟨v, e1, by rw [kvL_len]; exact e2, h.below e3, Oth.ofBelow e3⟩
theorem cur_len {w0 W : World} {N : Lo} {c d mb : Nat} {S : Dk} {K : Ck} (h : Cur w0 W N c d mb S K) :
    Calls Tryz.prog 22 #[.pointer (some ⟨c, 0, none⟩)] W fun e w' => e = .returned (.int .i64 (K.kv.length : Int)) ∧ w' = W := by
  obtain ⟨sv, o⟩ := h.op
  exact len_some N c d mb sv S K W o
theorem cur_broken {w0 W : World} {N : Lo} {c d mb : Nat} {S : Dk} {K : Ck} (h : Cur w0 W N c d mb S K) :
    Calls Tryz.prog 28 #[.pointer (some ⟨c, 0, none⟩)] W fun e w' => e = .returned (.bool K.broken) ∧ w' = W := by
  obtain ⟨sv, o⟩ := h.op
  exact broken_some c d mb sv K W o.holds
theorem cur_sync {w0 W : World} {N : Lo} {c d mb : Nat} {S : Dk} {K : Ck} (h : Cur w0 W N c d mb S K) (hb : K.broken = false) :
    Calls Tryz.prog 20 #[.pointer (some ⟨c, 0, none⟩)] W fun e w' => e = .returned (.int .i64 (csE S K)) ∧ Cur w0 w' N c d mb (csS S K) (csK S K) ∧ Oth W w' := by
  obtain ⟨sv, o⟩ := h.op
  exact (csync_any N c d mb sv S K W o h.sz h.tab hb).mono fun e w' ⟨e1, e2, e3⟩ => ⟨e1, h.next o (fun _ q => q) e3 ⟨sv, e2⟩⟩
/-- A disk alone, in the middle of a law that began at w0. -/
structure DCur (w0 W : World) (N : Lo) (d : Nat) (S : Dk) : Prop where
  disk : DiskAt W N d S
  lo : N.n = w0.heap.size
  tab : Tab N W
  bel : Below w0.heap.size w0 W
  lt : ∀ i, N.G i → i < W.heap.size
theorem DCur.sz {w0 W : World} {N : Lo} {d : Nat} {S : Dk} (h : DCur w0 W N d S) : N ≤ W.heap.size := by
  show N.n ≤ _
  rw [h.lo]; exact h.bel.size
theorem DCur.fine {w0 W : World} {N : Lo} {d : Nat} {S : Dk} (h : DCur w0 W N d S) : S.Fine := by
  obtain ⟨mv, st, A, V, q1, q2, q3, q4, q5⟩ := h.disk
  exact q5.toFine
theorem Cur.drop {w0 W : World} {N : Lo} {c d mb : Nat} {S : Dk} {K : Ck} (h : Cur w0 W N c d mb S K) : DCur w0 W N d S := by
  obtain ⟨sv, o⟩ := h.op
  exact ⟨o.disk, h.lo, h.tab, h.bel, o.lt⟩
theorem DCur.next {w0 W W' : World} {N : Lo} {d : Nat} {S S' : Dk} (h : DCur w0 W N d S) (hu : DUpd N W W') (hd : DiskAt W' N d S') : DCur w0 W' N d S' ∧ Oth W W' := by
  have hB := hu.below h.sz
  exact ⟨⟨hd, h.lo, h.tab.on hB, h.bel.trans (by have := h.lo; rw [← this]; exact hB), fun i hi => Nat.lt_of_lt_of_le (h.lt i hi) hu.size⟩, Oth.ofD hu⟩
/-- The mark at the start of a law. -/
def lo0 (w : World) : Lo := ⟨w.heap.size, fun _ => False⟩
theorem dcur_new (w0 : World) (hT : Tab w0.heap.size w0) (r : Int) (W : World) (hB : Below w0.heap.size w0 W) :
    Calls Tryz.prog 29 #[.int .i64 r] W fun e w' => e = .returned (.pointer (some ⟨W.heap.size, 0, none⟩)) ∧ DCur w0 w' (lo0 w0) W.heap.size (newS r) ∧ Oth W w' :=
  (new_any (lo0 w0) r W hB.size).mono fun e w' ⟨e1, e2, e3⟩ => by
    have hb := e3.below (N := lo0 w0) hB.size
    exact ⟨e1, ⟨e2, rfl, (hT.on hB).on hb, hB.trans hb, fun i hi => hi.elim⟩, Oth.ofD e3⟩
/-- Open of a disk whose segments are right. -/
theorem dcur_open {w0 W : World} {N : Lo} {d : Nat} {S : Dk} (h : DCur w0 W N d S) (hc : Calm S) (nm : ByteArray) (hnm : capOk nm = true) (L : List Sg) (hL : Sound S nm L) (hln : L.length ≤ 256) (hm : (L.flatMap Sg.cs).length ≤ 16777215) :
    Calls Tryz.prog 16 #[.pointer (some ⟨d, 0, none⟩), .string nm] W fun e w' => ∃ c mb, e = .returned (.tuple #[.pointer (some ⟨c, 0, none⟩), .int .i64 0]) ∧ Cur w0 w' (N.with mb) c d mb (ldS S nm L) (ldK nm L) ∧ Oth W w' := by
  obtain ⟨q1, q2, q3, q4⟩ := hL.opened hc hnm
  refine (open_some N d S hc.on nm hnm L (hL.list h.fine.rise) hln hL.seg hm W h.disk h.sz h.tab h.lt).mono ?_
  rintro e w' ⟨c, mb, sv, e1, e2, e3, e4⟩
  have hB := e4.below h.sz
  refine ⟨c, mb, ?_, ⟨⟨sv, e2⟩, h.lo, h.tab.on hB, h.bel.trans (by have := h.lo; rw [← this]; exact hB)⟩, Oth.ofD e4⟩
  rw [e1, q1]
  rfl
theorem ints_none (w : World) (N : Lo) (a : Option Addr) : IntsAt w N a [] := .inl rfl
theorem dcur_crash {w0 W : World} {N : Lo} {d : Nat} {S : Dk} (h : DCur w0 W N d S) (a : Option Addr) (c : Nat) (hcm : c ≤ maxLen) :
    Calls Tryz.prog 31 #[.pointer (some ⟨d, 0, none⟩), .slice a 0 c] W fun e w' => e = .returned (.tuple #[]) ∧ DCur w0 w' N d (crashS S []) ∧ Oth W w' :=
  (crash_some N d S [] (by simp) a c (Nat.zero_le _) hcm W h.disk (ints_none _ _ _)).mono fun e w' ⟨e1, e2, e3⟩ => ⟨e1, h.next e3 e2⟩
/-- Reopen of a cask whose segments are right. -/
theorem cur_reopen {w0 W : World} {N : Lo} {c d mb : Nat} {S : Dk} {K : Ck} (h : Cur w0 W N c d mb S K) (hc : Calm S) (L : List Sg) (hL : Good S K L) (hln : L.length ≤ 256) (hm : (L.flatMap Sg.cs).length ≤ 16777215) :
    Calls Tryz.prog 21 #[.pointer (some ⟨c, 0, none⟩)] W fun e w' => e = .returned (.int .i64 0) ∧ (∃ mb2, Cur w0 w' (N.with mb2) c d mb2 (ldS S K.nm L) (ldK K.nm L)) ∧ Oth W w' := by
  obtain ⟨sv, o⟩ := h.op
  obtain ⟨q1, q2, q3, q4⟩ := hL.sound.opened hc h.fine.nm
  refine (reopen_ok N c d mb sv S K hc.on L (hL.sound.list h.dfine.rise) hln hL.sound.seg hm W o h.sz h.tab hL.ok q1).mono ?_
  rintro e w' ⟨e1, mb2, sv2, e2, e3, e4⟩
  have hB : Below N W w' := e4.below h.sz (fun i hi => by rw [hi]; exact o.le)
  exact ⟨e1, ⟨mb2, ⟨sv2, e2⟩, h.lo, h.tab.on hB, h.bel.trans (by have := h.lo; rw [← this]; exact hB)⟩, o.oth (fun i q => .inl q) e4⟩
end Go.Proofs.YtfmmholkeadejaaGreatDoor

/- A cask in a law: the changes that were written to it. -/
namespace Go.Proofs.YtfmmholkeadejaaGreatDoor
open Go.RowKit

/-- What a cask has behind changes. -/
def kvOf (chs : List Ch) : Fs := chs.foldl (fun kv c => takeF c kv) []
structure On (S : Dk) (K : Ck) (nm : ByteArray) (chs : List Ch) (i : Nat) : Prop where
  ex : ∃ L, Good S K L ∧ L.flatMap Sg.cs = chs ∧ L.length ≤ i
  name : K.nm = nm
  new : newN K ≤ i
  len : chs.length ≤ i
theorem On.kv {S : Dk} {K : Ck} {nm : ByteArray} {chs : List Ch} {i : Nat} (h : On S K nm chs i) : K.kv = kvOf chs := by
  obtain ⟨L, g, rfl, _⟩ := h.ex
  exact g.kv
theorem On.ok {S : Dk} {K : Ck} {nm : ByteArray} {chs : List Ch} {i : Nat} (h : On S K nm chs i) : K.broken = false := by
  obtain ⟨L, g, _, _⟩ := h.ex
  exact g.ok
theorem On.mono {S : Dk} {K : Ck} {nm : ByteArray} {chs : List Ch} {i j : Nat} (h : On S K nm chs i) (hj : i ≤ j) : On S K nm chs j := by
  obtain ⟨L, g, q1, q2⟩ := h.ex
  exact ⟨⟨L, g, q1, by omega⟩, h.name, Nat.le_trans h.new hj, Nat.le_trans h.len hj⟩
theorem st_same (S : Dk) (K : Ck) (r : ByteArray) : (stK S K r).nm = K.nm ∧ newN (stK S K r) ≤ newN K + 1 := by
  obtain ⟨q1, q2, q3, q4, q5⟩ := csK_same S K
  have hn := newN_cs S K
  unfold stK
  split
  · exact ⟨rfl, by show newN K ≤ _; omega⟩
  · unfold bgK
    split
    · split
      · refine ⟨q1, ?_⟩
        show (K.segs ++ [newN K + 1]).getLastD 0 ≤ _
        simp
      · exact ⟨q1, by show newN (csK S K) ≤ _; omega⟩
    · exact ⟨q1, by omega⟩
/-- What a writing leaves. -/
structure Wr (S : Dk) (nm : ByteArray) (S' : Dk) : Prop where
  calm : Calm S'
  sized : Sized S S'
  others : ∀ k, ¬ Mine nm k → bts S' k = bts S k
theorem On.write {S : Dk} {K : Ck} {nm : ByteArray} {chs : List Ch} {i : Nat} (h : On S K nm chs i) (hc : Calm S) (hr : Rising S.fs) (hf : K.Fine) (hi : i < 999999) (ch : Ch) (hok : ch.Ok) :
    Wr S nm (stS S K (chR ch)) ∧ ((stE S K (chR ch) = 0 ∧ On (stS S K (chR ch)) (laidK (stK S K (chR ch)) ch) nm (chs ++ [ch]) (i + 1)) ∨ (stE S K (chR ch) = 22 ∧ On (stS S K (chR ch)) (stK S K (chR ch)) nm chs (i + 1))) ∧ (used S.fs + (chR ch).size ≤ S.room → stE S K (chR ch) = 0) := by
  obtain ⟨L, g, rfl, hl⟩ := h.ex
  obtain ⟨t1, t2⟩ := st_same S K (chR ch)
  have hnew := h.new
  have hlen := h.len
  have wr := g.write hc hr hf hok (by omega)
  refine ⟨⟨wr.calm, st_sized hr K _, by have := h.name; subst this; exact wr.others⟩, ?_, wr.fits⟩
  rcases wr.err with e | e
  · obtain ⟨L', q1, q2, q3⟩ := wr.done e
    refine .inl ⟨e, ⟨L', q1, q2, by omega⟩, t1.trans h.name, ?_, by rw [List.length_append]; simp only [List.length_cons, List.length_nil]; omega⟩
    show newN (stK S K (chR ch)) ≤ _
    omega
  · exact .inr ⟨e, ⟨L, (wr.full e).1, rfl, by omega⟩, t1.trans h.name, by omega, by omega⟩
theorem On.room {w0 W : World} {N : Lo} {c d mb : Nat} {S : Dk} {K : Ck} {nm : ByteArray} {chs : List Ch} {i : Nat} (h : On S K nm chs i) (hcur : Cur w0 W N c d mb S K) (hj : S.fs.length < 256) (hi : i < 999999) : Room4 S K := by
  obtain ⟨L, g, rfl, hl⟩ := h.ex
  have hnew := h.new
  have hlen := h.len
  exact room_of hcur g hj (by omega) (by omega) (by omega)
/-- What a call leaves: the cask with these changes. -/
def Nx (w0 W : World) (N : Lo) (c d mb : Nat) (nm : ByteArray) (chs : List Ch) (i : Nat) (S : Dk) (w' : World) : Prop :=
  ∃ S' K', Cur w0 w' N c d mb S' K' ∧ On S' K' nm chs i ∧ Wr S nm S' ∧ Oth W w'
theorem Wr.same {S : Dk} (nm : ByteArray) (hc : Calm S) (hr : Rising S.fs) : Wr S nm S := ⟨hc, ⟨rfl, hr, by omega, by omega⟩, fun _ _ => rfl⟩
/-- Put: it is written, or refused. -/
theorem on_put {w0 W0 : World} {N : Lo} {c d mb : Nat} {S : Dk} {K : Ck} {nm : ByteArray} {chs : List Ch} {i : Nat} (h0 : Cur w0 W0 N c d mb S K) (ho : On S K nm chs i) (hc : Calm S) (hj : S.fs.length < 256) (hi : i < 999999) (k v : ByteArray) :
    (cfE k v = 0 ∧ ∀ W, Cur w0 W N c d mb S K → Calls Tryz.prog 18 #[.pointer (some ⟨c, 0, none⟩), .string k, .string v] W fun e w' => e = .returned (.int .i64 0) ∧ Nx w0 W N c d mb nm (chs ++ [⟨k, v, false⟩]) (i + 1) S w') ∨
    (∃ E, E ≠ 0 ∧ ¬ (cfE k v = 0 ∧ used S.fs + (chR ⟨k, v, false⟩).size ≤ S.room) ∧ ∀ W, Cur w0 W N c d mb S K → Calls Tryz.prog 18 #[.pointer (some ⟨c, 0, none⟩), .string k, .string v] W fun e w' => e = .returned (.int .i64 E) ∧ Nx w0 W N c d mb nm chs (i + 1) S w') := by
  by_cases hE : cfE k v = 0
  · obtain ⟨q1, q2, q3⟩ := ho.write hc h0.dfine.rise h0.fine hi ⟨k, v, false⟩ hE
    have hp := fun W (h : Cur w0 W N c d mb S K) => cur_put h k v hE ho.ok (ho.room h0 hj hi)
    rcases q2 with ⟨e, o⟩ | ⟨e, o⟩
    · refine .inl ⟨hE, fun W h => (hp W h).mono fun x w' ⟨e1, e2, e3⟩ => ?_⟩
      rw [e, if_pos rfl] at e2
      exact ⟨by rw [e1, e], _, _, e2, o, q1, e3⟩
    · refine .inr ⟨22, by decide, fun q => ?_, fun W h => (hp W h).mono fun x w' ⟨e1, e2, e3⟩ => ?_⟩
      · have := q3 q.2; rw [e] at this; cases this
      · rw [e, if_neg (by decide)] at e2
        exact ⟨by rw [e1, e], _, _, e2, o, q1, e3⟩
  · exact .inr ⟨_, hE, fun q => hE q.1, fun W h => (cur_put_bad h k v hE ho.ok).mono fun x w' ⟨e1, e2, e3⟩ => ⟨e1, _, _, e2, ho.mono (by omega), Wr.same nm hc h.dfine.rise, e3⟩⟩
theorem kvOf_snoc (chs : List Ch) (c : Ch) : kvOf (chs ++ [c]) = takeF c (kvOf chs) := by simp [kvOf]
theorem takeF_rises {kv : Fs} (h : Rising kv) (c : Ch) : Rising (takeF c kv) := by
  unfold takeF
  split
  · exact h.del _
  · exact h.put _ _
theorem foldF_rise : ∀ (chs : List Ch) (kv : Fs), Rising kv → Rising (chs.foldl (fun kv c => takeF c kv) kv)
  | [], _, h => h
  | c :: l, _, h => foldF_rise l _ (takeF_rises h c)
theorem kvOf_rise (chs : List Ch) : Rising (kvOf chs) := foldF_rise chs [] List.Pairwise.nil
/-- The last change of a key. -/
theorem get_take {kv : Fs} (h : Rising kv) (c : Ch) (k : List UInt8) : get (takeF c kv) k = if k = c.k.data.toList then (if c.dead = true then none else some ⟨c.v.data.toList, 0⟩) else get kv k := by
  unfold takeF
  by_cases hd : c.dead = true
  · rw [if_pos hd, if_pos hd, get_del h]
  · rw [if_neg hd, if_neg hd, get_put]
theorem kvOf_key {k : List UInt8} {f : Fl} (chs : List Ch) : get (kvOf chs) k = some f → ∃ c ∈ chs, c.k.data.toList = k := by
  suffices H : ∀ l : List Ch, (∀ f, get (kvOf l.reverse) k = some f → ∃ c ∈ l.reverse, c.k.data.toList = k) by
    have := H chs.reverse f
    rwa [List.reverse_reverse] at this
  intro l
  induction l with
  | nil => intro f h; cases h
  | cons c l ih =>
    intro f h
    rw [List.reverse_cons, kvOf_snoc, get_take (kvOf_rise _)] at h
    split at h
    · rename_i e
      exact ⟨c, by simp, e.symm⟩
    · obtain ⟨c', hc', e⟩ := ih f h
      exact ⟨c', by simp at hc' ⊢; exact .inl hc', e⟩
theorem cfE_key {k v : ByteArray} (h : cfE k v = 0) : cfE k ⟨#[]⟩ = 0 := by
  unfold cfE at *
  split at h
  · cases h
  · rename_i h1
    split at h
    · cases h
    · rename_i h2
      rw [if_neg h1, if_neg]
      intro q
      rcases q with q | q
      · exact h2 (.inl q)
      · exact absurd q (by decide)
/-- Delete of one key: it is written, or refused. -/
theorem on_del {w0 W0 : World} {N : Lo} {c d mb : Nat} {S : Dk} {K : Ck} {nm : ByteArray} {chs : List Ch} {i : Nat} (h0 : Cur w0 W0 N c d mb S K) (ho : On S K nm chs i) (hok : ∀ c ∈ chs, c.Ok) (hc : Calm S) (hj : S.fs.length < 256) (hi : i < 999999) (s : ByteArray) (hs : s.size ≤ maxLen) :
    (cfE s ⟨#[]⟩ = 0 ∧ ∀ W g q, Cur w0 W N c d mb S K → W.cell? ⟨g, 0, none⟩ = some (.string s) → Calls Tryz.prog 19 #[.pointer (some ⟨c, 0, none⟩), .slice (some ⟨g, 0, none⟩) 1 q] W fun e w' => e = .returned (.int .i64 0) ∧ Nx w0 W N c d mb nm (chs ++ [⟨s, ⟨#[]⟩, true⟩]) (i + 1) S w') ∨
    (∃ E, E ≠ 0 ∧ ∀ W g q, Cur w0 W N c d mb S K → W.cell? ⟨g, 0, none⟩ = some (.string s) → Calls Tryz.prog 19 #[.pointer (some ⟨c, 0, none⟩), .slice (some ⟨g, 0, none⟩) 1 q] W fun e w' => e = .returned (.int .i64 E) ∧ Nx w0 W N c d mb nm chs (i + 1) S w') := by
  cases hg : get K.kv s.data.toList with
  | none => exact .inr ⟨21, by decide, fun W g q h hk => (cur_del_gone h s hs g q hg hk ho.ok).mono fun x w' ⟨e1, e2, e3⟩ => ⟨e1, _, _, e2, ho.mono (by omega), Wr.same nm hc h.dfine.rise, e3⟩⟩
  | some f =>
    have hE : cfE s ⟨#[]⟩ = 0 := by
      rw [ho.kv] at hg
      obtain ⟨c', hc', e⟩ := kvOf_key chs hg
      have : c'.k = s := bytes_ext e
      rw [← this]
      exact cfE_key (hok c' hc')
    obtain ⟨q1, q2, q3⟩ := ho.write hc h0.dfine.rise h0.fine hi ⟨s, ⟨#[]⟩, true⟩ hE
    have hp := fun W g q (h : Cur w0 W N c d mb S K) hk => cur_del h s hE g q f hg hk ho.ok (ho.room h0 hj hi)
    rcases q2 with ⟨e, o⟩ | ⟨e, o⟩
    · refine .inl ⟨hE, fun W g q h hk => (hp W g q h hk).mono fun x w' ⟨e1, e2, e3⟩ => ?_⟩
      rw [e, if_pos rfl] at e2
      exact ⟨by rw [e1, e], _, _, e2, o, q1, e3⟩
    · refine .inr ⟨22, by decide, fun W g q h hk => (hp W g q h hk).mono fun x w' ⟨e1, e2, e3⟩ => ?_⟩
      rw [e, if_neg (by decide)] at e2
      exact ⟨by rw [e1, e], _, _, e2, o, q1, e3⟩
/-- A cask that was just opened. -/
theorem On.opened {S : Dk} {nm : ByteArray} {L : List Sg} {i : Nat} (h : Sound S nm L) (hc : Calm S) (hnm : capOk nm = true) (hi : L.length ≤ i) (hn : ∀ x ∈ L, x.n ≤ i) (hl : (L.flatMap Sg.cs).length ≤ i) : On (ldS S nm L) (ldK nm L) nm (L.flatMap Sg.cs) i := by
  obtain ⟨q1, q2, q3, q4⟩ := h.opened hc hnm
  refine ⟨⟨L, q3, rfl, hi⟩, rfl, ?_, hl⟩
  rw [newN_last q3.segs]
  split
  · rename_i x hx
    exact hn x (List.mem_of_getLast? hx)
  · omega
/-- The segments' numbers. -/
theorem Good.nums {S : Dk} {K : Ck} {L : List Sg} (h : Good S K L) : ∀ x ∈ L, x.n ≤ newN K := fun x hx => by
  have hne : K.segs ≠ [] := fun e => by
    have : x.n ∈ K.segs := by rw [h.segs]; exact List.mem_map.2 ⟨x, hx, rfl⟩
    rw [e] at this; cases this
  obtain ⟨L0, y, rfl, hn, _⟩ := h.name hne
  rw [hn]
  rcases List.mem_append.1 hx with hx | hx
  · have := h.sound.rise
    rw [List.map_append, List.pairwise_append] at this
    have := this.2.2 x.n (List.mem_map.2 ⟨x, hx, rfl⟩) y.n (by simp)
    omega
  · simp at hx; subst hx; omega
theorem on_reopen {w0 W : World} {N : Lo} {c d mb : Nat} {S : Dk} {K : Ck} {nm : ByteArray} {chs : List Ch} {i : Nat} (h : Cur w0 W N c d mb S K) (ho : On S K nm chs i) (hc : Calm S) (hi : i ≤ 256) :
    Calls Tryz.prog 21 #[.pointer (some ⟨c, 0, none⟩)] W fun e w' => e = .returned (.int .i64 0) ∧ ∃ mb2 S' K', Cur w0 w' (N.with mb2) c d mb2 S' K' ∧ On S' K' nm chs i ∧ Calm S' ∧ S'.fs.length = S.fs.length ∧ Oth W w' := by
  obtain ⟨L, g, rfl, hl⟩ := ho.ex
  have hlen := ho.len
  have hnew := ho.new
  refine (cur_reopen h hc L g (by omega) (by omega)).mono fun e w' ⟨e1, ⟨mb2, e2⟩, e3⟩ => ⟨e1, mb2, _, _, e2, ?_, ?_, (ld_sized h.dfine.rise K.nm L).2.2.1, e3⟩
  · have := On.opened g.sound hc h.fine.nm hl (fun x hx => Nat.le_trans (g.nums x hx) hnew) hlen
    rw [← ho.name]; exact this
  · exact (g.sound.opened hc h.fine.nm).2.1
/-- Open of a disk that has a cask's segments. -/
theorem on_open {w0 W : World} {N : Lo} {d : Nat} {S : Dk} (h : DCur w0 W N d S) (hc : Calm S) (nm : ByteArray) (hnm : capOk nm = true) (L : List Sg) (hL : Sound S nm L) (i : Nat) (hl : L.length ≤ i) (hn : ∀ x ∈ L, x.n ≤ i) (hm : (L.flatMap Sg.cs).length ≤ i) (hi : i ≤ 256) :
    Calls Tryz.prog 16 #[.pointer (some ⟨d, 0, none⟩), .string nm] W fun e w' => ∃ c mb, e = .returned (.tuple #[.pointer (some ⟨c, 0, none⟩), .int .i64 0]) ∧ ∃ S' K', Cur w0 w' (N.with mb) c d mb S' K' ∧ On S' K' nm (L.flatMap Sg.cs) i ∧ Calm S' ∧ (∀ k, bts S' k = bts S k) ∧ S'.fs.length = S.fs.length ∧ used S'.fs = used S.fs ∧ S'.room = S.room ∧ Oth W w' := by
  obtain ⟨q1, q2, q3, q4⟩ := hL.opened hc hnm
  obtain ⟨u1, u2, u3, u4⟩ := ld_sized h.fine.rise nm L
  exact (dcur_open h hc nm hnm L hL (by omega) (by omega)).mono fun e w' ⟨c, mb, e1, e2, e3⟩ => ⟨c, mb, e1, _, _, e2, On.opened hL hc hnm hl hn hm, q2, q4, u3, u1, u2, e3⟩
end Go.Proofs.YtfmmholkeadejaaGreatDoor

/- What the document fixes (awake): the states, reckoned. -/
namespace Go.Proofs.YtfmmholkeadejaaGreatDoor
open Go.RowKit

abbrev v1B : ByteArray := ⟨#[118, 49]⟩
abbrev bA (x : UInt8) : ByteArray := ⟨#[x]⟩
def aC1 : Ch := ⟨bA 97, bA 49, false⟩
def aC2 : Ch := ⟨bA 98, bA 50, false⟩
def aC3 : Ch := ⟨bA 97, bA 51, false⟩
def aC4 : Ch := ⟨bA 98, ⟨#[]⟩, true⟩
def aC6 : Ch := ⟨bA 99, bA 52, false⟩
def aS0 : Dk := newS 100000
def aK0 : Ck := ldK v1B []
def aS1 : Dk := stS aS0 aK0 (chR aC1)
def aK1 : Ck := laidK (stK aS0 aK0 (chR aC1)) aC1
def aS2 : Dk := stS aS1 aK1 (chR aC2)
def aK2 : Ck := laidK (stK aS1 aK1 (chR aC2)) aC2
def aS3 : Dk := stS aS2 aK2 (chR aC3)
def aK3 : Ck := laidK (stK aS2 aK2 (chR aC3)) aC3
def aS4 : Dk := stS aS3 aK3 (chR aC4)
def aK4 : Ck := laidK (stK aS3 aK3 (chR aC4)) aC4
def aS5 : Dk := csS aS4 aK4
def aK5 : Ck := csK aS4 aK4
def aS6 : Dk := stS aS5 aK5 (chR aC6)
def aK6 : Ck := laidK (stK aS5 aK5 (chR aC6)) aC6
def aS7 : Dk := crashS aS6 []
def aL7 : List Sg := [⟨1, [aC1, aC2, aC3, aC4], []⟩]
theorem aE1 : stE aS0 aK0 (chR aC1) = 0 := by kernel_rfl
theorem aE2 : stE aS1 aK1 (chR aC2) = 0 := by kernel_rfl
theorem aE3 : stE aS2 aK2 (chR aC3) = 0 := by kernel_rfl
theorem aE4 : stE aS3 aK3 (chR aC4) = 0 := by kernel_rfl
theorem aE5 : csE aS4 aK4 = 0 := by kernel_rfl
theorem aE6 : stE aS5 aK5 (chR aC6) = 0 := by kernel_rfl
def roomB (S : Dk) (K : Ck) : Bool := decide (K.left ≤ 4096) && decide (S.fs.length < 256) && decide ((csS S K).fs.length < 256) && decide (newN K < 999999) && decide (K.segs.length < 16777216) && decide (K.kv.length < 16777216) && decide (K.recs < 4611686018427387903)
theorem room_B {S : Dk} {K : Ck} (h : roomB S K = true) : Room4 S K := by
  simp only [roomB, Bool.and_eq_true, decide_eq_true_eq] at h
  obtain ⟨⟨⟨⟨⟨⟨h1, h2⟩, h3⟩, h4⟩, h5⟩, h6⟩, h7⟩ := h
  exact ⟨h1, h2, h3, h4, h5, h6, h7⟩
theorem aR0 : Room4 aS0 aK0 := room_B (by kernel_rfl)
theorem aR1 : Room4 aS1 aK1 := room_B (by kernel_rfl)
theorem aR2 : Room4 aS2 aK2 := room_B (by kernel_rfl)
theorem aR3 : Room4 aS3 aK3 := room_B (by kernel_rfl)
theorem aR5 : Room4 aS5 aK5 := room_B (by kernel_rfl)
theorem aB : aK0.broken = false ∧ aK1.broken = false ∧ aK2.broken = false ∧ aK3.broken = false ∧ aK4.broken = false ∧ aK5.broken = false := ⟨by kernel_rfl, by kernel_rfl, by kernel_rfl, by kernel_rfl, by kernel_rfl, by kernel_rfl⟩
theorem aG3 : ∃ f, get aK3.kv (bA 98).data.toList = some f := Option.isSome_iff_exists.1 (by kernel_rfl)
theorem aG4 : get aK4.kv (bA 98).data.toList = none := Option.isNone_iff_eq_none.1 (by kernel_rfl)
theorem aV4 : getV aK4.kv (bA 97) = bA 51 := by kernel_rfl
theorem aVE4 : getE aK4.kv (bA 97) = 0 := by kernel_rfl
theorem aN4 : (kvL aK4.kv).length = 1 := by kernel_rfl
theorem aLd0 : ldS aS0 v1B [] = aS0 := by kernel_rfl
theorem aSound0 : Sound aS0 v1B [] := ⟨by simp, by simp, by simp, by simp, by simp, fun k _ h => by cases h⟩
theorem aCalm0 : Calm aS0 := ⟨rfl, rfl⟩
theorem aCalm7 : Calm aS7 := ⟨rfl, rfl⟩
theorem aFs7 : aS7.fs.map Prod.fst = [(fileB v1B 1).data.toList] := by kernel_rfl
theorem aBt7 : bts aS7 (fileB v1B 1).data.toList = some ([aC1, aC2, aC3, aC4].flatMap chB ++ []) := by kernel_rfl
theorem aSound7 : Sound aS7 v1B aL7 := by
  have hm : ∀ x ∈ aL7, x = ⟨1, [aC1, aC2, aC3, aC4], []⟩ := fun x hx => by simpa [aL7] using hx
  refine ⟨by simp [aL7], fun x hx => ?_, fun x hx => ?_, fun x hx => ?_, fun x hx => ?_, fun k _ h => ?_⟩
  · rw [hm x hx]; exact ⟨by decide, by decide⟩
  · rw [hm x hx]; exact aBt7
  · rw [hm x hx]
    intro c hc
    simp at hc
    rcases hc with rfl | rfl | rfl | rfl <;> (unfold Ch.Ok; kernel_rfl)
  · rw [hm x hx]; intro e; exact absurd rfl e
  · have := bts_mem.1 h
    rw [aFs7] at this
    exact ⟨⟨1, [aC1, aC2, aC3, aC4], []⟩, by simp [aL7], by simpa using this⟩
theorem aN7 : (ldK v1B aL7).kv.length = 1 := by kernel_rfl
theorem aCap : capOk v1B = true := by kernel_rfl
theorem aF7 : fileB v1B 7 = ⟨#[118, 49, 46, 48, 48, 48, 48, 48, 55]⟩ := by kernel_rfl
end Go.Proofs.YtfmmholkeadejaaGreatDoor

/- What the document fixes (awake, 17): yes, and all that lay there is as it was. -/
namespace Go.Proofs.YtfmmholkeadejaaGreatDoor
open Go.RowKit

theorem aw_put {w W : World} {N : Lo} {c d mb : Nat} {S : Dk} {K : Ck} (h : Cur w W N c d mb S K) (k v : ByteArray) (hE : cfE k v = 0) (hb : K.broken = false) (hR : Room4 S K) (h0 : stE S K (chR ⟨k, v, false⟩) = 0) :
    Calls Tryz.prog 18 #[.pointer (some ⟨c, 0, none⟩), .string k, .string v] W fun e w' => e = .returned (.int .i64 0) ∧ Cur w w' N c d mb (stS S K (chR ⟨k, v, false⟩)) (laidK (stK S K (chR ⟨k, v, false⟩)) ⟨k, v, false⟩) :=
  (cur_put h k v hE hb hR).mono fun e w' ⟨e1, e2, _⟩ => by rw [h0, if_pos rfl] at e2; exact ⟨by rw [e1, h0], e2⟩
theorem cur_alloc {w W : World} {N : Lo} {c d mb : Nat} {S : Dk} {K : Ck} (h : Cur w W N c d mb S K) (o : Obj) : Cur w (W.alloc o) N c d mb S K := h.below ((Below.refl _ W).alloc (Nat.le_refl _) o)
theorem new_cell (W : World) (s : ByteArray) : (W.alloc (.cells #[.string s] 9)).cell? ⟨W.heap.size, 0, none⟩ = some (.string s) := (holds_new W [.string s] 9).at 0 _ rfl
theorem aw_del {w W : World} {N : Lo} {c d mb : Nat} (h : Cur w W N c d mb aS3 aK3) :
    Calls Tryz.prog 19 #[.pointer (some ⟨c, 0, none⟩), .slice (some ⟨W.heap.size, 0, none⟩) 1 1] (W.alloc (.cells #[.string (bA 98)] 9)) fun e w' => e = .returned (.int .i64 0) ∧ Cur w w' N c d mb aS4 aK4 := by
  obtain ⟨f, hf⟩ := aG3
  exact (cur_del (cur_alloc h _) (bA 98) (by kernel_rfl) W.heap.size 1 f hf (new_cell W _) aB.2.2.2.1 aR3).mono fun e w' ⟨e1, e2, _⟩ => by
    have h0 : stE aS3 aK3 (chR ⟨bA 98, ⟨#[]⟩, true⟩) = 0 := aE4
    rw [h0, if_pos rfl] at e2
    exact ⟨by rw [e1, h0], e2⟩
theorem aw_gone {w W : World} {N : Lo} {c d mb : Nat} (h : Cur w W N c d mb aS4 aK4) :
    Calls Tryz.prog 19 #[.pointer (some ⟨c, 0, none⟩), .slice (some ⟨W.heap.size, 0, none⟩) 1 1] (W.alloc (.cells #[.string (bA 98)] 9)) fun e w' => e = .returned (.int .i64 21) ∧ Cur w w' N c d mb aS4 aK4 :=
  (cur_del_gone (cur_alloc h _) (bA 98) (by unfold maxLen; decide) W.heap.size 1 aG4 (new_cell W _) aB.2.2.2.2.1).mono fun e w' ⟨e1, e2, _⟩ => ⟨e1, e2⟩
set_option maxHeartbeats 2000000 in
set_option maxRecDepth 100000 in
theorem awake_any (w : World) (hT : Tab w.heap.size w) : Calls Tryz.prog 17 #[] w fun e w' => e = .returned (.bool true) ∧ Below w.heap.size w w' := by
  have h29 : Hid (Calls Tryz.prog 29 #[.int .i64 100000] w fun e w' => e = .returned (.pointer (some ⟨w.heap.size, 0, none⟩)) ∧ Hid (DCur w w' (lo0 w) w.heap.size aS0)) := (dcur_new w hT 100000 w (Below.refl _ _)).mono fun e w' ⟨e1, e2, _⟩ => ⟨e1, e2⟩
  have h16 : Hid (∀ W, Hid (DCur w W (lo0 w) w.heap.size aS0) → Calls Tryz.prog 16 #[.pointer (some ⟨w.heap.size, 0, none⟩), .string v1B] W fun e w' => ∃ c mb, e = .returned (.tuple #[.pointer (some ⟨c, 0, none⟩), .int .i64 0]) ∧ Hid (Cur w w' ((lo0 w).with mb) c w.heap.size mb aS0 aK0)) := fun W h => (dcur_open h.out aCalm0 v1B aCap [] aSound0 (by decide) (by decide)).mono fun e w' ⟨c, mb, e1, e2, _⟩ => ⟨c, mb, e1, by rw [aLd0] at e2; exact e2⟩
  have p1 : Hid (∀ W c mb, Hid (Cur w W ((lo0 w).with mb) c w.heap.size mb aS0 aK0) → Calls Tryz.prog 18 #[.pointer (some ⟨c, 0, none⟩), .string (bA 97), .string (bA 49)] W fun e w' => e = .returned (.int .i64 0) ∧ Hid (Cur w w' ((lo0 w).with mb) c w.heap.size mb aS1 aK1)) := fun W c mb h => aw_put h.out (bA 97) (bA 49) (by kernel_rfl) aB.1 aR0 aE1
  have p2 : Hid (∀ W c mb, Hid (Cur w W ((lo0 w).with mb) c w.heap.size mb aS1 aK1) → Calls Tryz.prog 18 #[.pointer (some ⟨c, 0, none⟩), .string (bA 98), .string (bA 50)] W fun e w' => e = .returned (.int .i64 0) ∧ Hid (Cur w w' ((lo0 w).with mb) c w.heap.size mb aS2 aK2)) := fun W c mb h => aw_put h.out (bA 98) (bA 50) (by kernel_rfl) aB.2.1 aR1 aE2
  have p3 : Hid (∀ W c mb, Hid (Cur w W ((lo0 w).with mb) c w.heap.size mb aS2 aK2) → Calls Tryz.prog 18 #[.pointer (some ⟨c, 0, none⟩), .string (bA 97), .string (bA 51)] W fun e w' => e = .returned (.int .i64 0) ∧ Hid (Cur w w' ((lo0 w).with mb) c w.heap.size mb aS3 aK3)) := fun W c mb h => aw_put h.out (bA 97) (bA 51) (by kernel_rfl) aB.2.2.1 aR2 aE3
  have d4 : Hid (∀ W c mb, Hid (Cur w W ((lo0 w).with mb) c w.heap.size mb aS3 aK3) → Calls Tryz.prog 19 #[.pointer (some ⟨c, 0, none⟩), .slice (some ⟨W.heap.size, 0, none⟩) 1 1] (W.alloc (.cells #[.string (bA 98)] 9)) fun e w' => e = .returned (.int .i64 0) ∧ Hid (Cur w w' ((lo0 w).with mb) c w.heap.size mb aS4 aK4)) := fun W c mb h => aw_del h.out
  have d5 : Hid (∀ W c mb, Hid (Cur w W ((lo0 w).with mb) c w.heap.size mb aS4 aK4) → Calls Tryz.prog 19 #[.pointer (some ⟨c, 0, none⟩), .slice (some ⟨W.heap.size, 0, none⟩) 1 1] (W.alloc (.cells #[.string (bA 98)] 9)) fun e w' => e = .returned (.int .i64 21) ∧ Hid (Cur w w' ((lo0 w).with mb) c w.heap.size mb aS4 aK4)) := fun W c mb h => aw_gone h.out
  have h15 : Hid (∀ W c mb, Hid (Cur w W ((lo0 w).with mb) c w.heap.size mb aS4 aK4) → Calls Tryz.prog 15 #[.pointer (some ⟨c, 0, none⟩), .string (bA 97)] W fun e w' => e = .returned (.tuple #[.string (bA 51), .int .i64 0]) ∧ Hid (Cur w w' ((lo0 w).with mb) c w.heap.size mb aS4 aK4)) := fun W c mb h => (cur_get h.out (bA 97) (by unfold maxLen; decide) aB.2.2.2.2.1).mono fun e w' ⟨e1, e2, _⟩ => ⟨by rw [e1, aV4, aVE4], e2⟩
  have h23 : Hid (∀ W c mb, Hid (Cur w W ((lo0 w).with mb) c w.heap.size mb aS4 aK4) → Calls Tryz.prog 23 #[.pointer (some ⟨c, 0, none⟩)] W fun e w' => ∃ a q, e = .returned (.slice a 1 q) ∧ Hid (Cur w w' ((lo0 w).with mb) c w.heap.size mb aS4 aK4)) := fun W c mb h => (cur_fold h.out).mono fun e w' ⟨v, e1, e2, e3, _⟩ => by
    obtain ⟨a, q, rfl⟩ := row_slice e2
    exact ⟨a, q, by rw [e1, aN4], e3⟩
  have h20 : Hid (∀ W c mb, Hid (Cur w W ((lo0 w).with mb) c w.heap.size mb aS4 aK4) → Calls Tryz.prog 20 #[.pointer (some ⟨c, 0, none⟩)] W fun e w' => e = .returned (.int .i64 0) ∧ Hid (Cur w w' ((lo0 w).with mb) c w.heap.size mb aS5 aK5)) := fun W c mb h => (cur_sync h.out aB.2.2.2.2.1).mono fun e w' ⟨e1, e2, _⟩ => ⟨by rw [e1, aE5], e2⟩
  have p6 : Hid (∀ W c mb, Hid (Cur w W ((lo0 w).with mb) c w.heap.size mb aS5 aK5) → Calls Tryz.prog 18 #[.pointer (some ⟨c, 0, none⟩), .string (bA 99), .string (bA 52)] W fun e w' => e = .returned (.int .i64 0) ∧ Hid (DCur w w' ((lo0 w).with mb) w.heap.size aS6)) := fun W c mb h => (aw_put h.out (bA 99) (bA 52) (by kernel_rfl) aB.2.2.2.2.2 aR5 aE6).mono fun e w' ⟨e1, e2⟩ => ⟨e1, e2.drop⟩
  have h31 : Hid (∀ W mb, Hid (DCur w W ((lo0 w).with mb) w.heap.size aS6) → Calls Tryz.prog 31 #[.pointer (some ⟨w.heap.size, 0, none⟩), .slice none 0 0] W fun e w' => e = .returned (.tuple #[]) ∧ Hid (DCur w w' ((lo0 w).with mb) w.heap.size aS7)) := fun W mb h => (dcur_crash h.out none 0 (Nat.zero_le _)).mono fun e w' ⟨e1, e2, _⟩ => ⟨e1, e2⟩
  have o7 : Hid (∀ W mb, Hid (DCur w W ((lo0 w).with mb) w.heap.size aS7) → Calls Tryz.prog 16 #[.pointer (some ⟨w.heap.size, 0, none⟩), .string v1B] W fun e w' => ∃ c2 mb2, e = .returned (.tuple #[.pointer (some ⟨c2, 0, none⟩), .int .i64 0]) ∧ Hid (Cur w w' (((lo0 w).with mb).with mb2) c2 w.heap.size mb2 (ldS aS7 v1B aL7) (ldK v1B aL7))) := fun W mb h => (dcur_open h.out aCalm7 v1B aCap aL7 aSound7 (by decide) (by decide)).mono fun e w' ⟨c, mb, e1, e2, _⟩ => ⟨c, mb, e1, e2⟩
  have h22 : Hid (∀ W c2 mb mb2, Hid (Cur w W (((lo0 w).with mb).with mb2) c2 w.heap.size mb2 (ldS aS7 v1B aL7) (ldK v1B aL7)) → Calls Tryz.prog 22 #[.pointer (some ⟨c2, 0, none⟩)] W fun e w' => e = .returned (.int .i64 1) ∧ w' = W) := fun W c2 mb mb2 h => (cur_len h.out).mono fun e w' ⟨e1, e2⟩ => ⟨by rw [e1, aN7]; rfl, e2⟩
  have h36 : Hid (∀ W c2 mb mb2, Hid (Cur w W (((lo0 w).with mb).with mb2) c2 w.heap.size mb2 (ldS aS7 v1B aL7) (ldK v1B aL7)) → Calls Tryz.prog 36 #[.string v1B, .int .i64 7] W fun e w' => e = .returned (.string ⟨#[118, 49, 46, 48, 48, 48, 48, 48, 55]⟩) ∧ Hid (Below w.heap.size w w')) := fun W c2 mb mb2 h => (file_ok _ v1B aCap 7 (by decide) (by decide) W h.out.sz h.out.tab).mono fun e w' ⟨e1, e2⟩ => ⟨by rw [e1, aF7], h.out.bel.trans (e2.mono h.out.bel.size)⟩
  clear hT
  go_enter Tryz.func17, Tryz.ntmps17
  go_wp2_with (first
    | (go_at_call 36; refine (h36.out _ c2 mb mb2 s11).mono ?_; rintro e w12 ⟨rfl, s12⟩)
    | (go_at_call 22; refine (h22.out _ c2 mb mb2 s11).mono ?_; rintro e w' ⟨rfl, e1⟩; rw [e1]; clear e1)
    | (go_at_call 16; refine (o7.out _ mb s10).mono ?_; rintro e w11 ⟨c2, mb2, rfl, s11⟩)
    | (go_at_call 31; refine (h31.out _ mb s9).mono ?_; rintro e w10 ⟨rfl, s10⟩)
    | (go_at_call 18; refine (p6.out _ c mb s8).mono ?_; rintro e w9 ⟨rfl, s9⟩)
    | (go_at_call 20; refine (h20.out _ c mb s7).mono ?_; rintro e w8 ⟨rfl, s8⟩)
    | (go_at_call 23; refine (h23.out _ c mb s6).mono ?_; rintro e w7 ⟨av, qv, rfl, s7⟩)
    | (go_at_call 15; refine (h15.out _ c mb s5).mono ?_; rintro e w6 ⟨rfl, s6⟩)
    | (go_at_call 19; refine (d5.out w4 c mb s4).mono ?_; rintro e w5 ⟨rfl, s5⟩)
    | (go_at_call 19; refine (d4.out w3 c mb s3).mono ?_; rintro e w4 ⟨rfl, s4⟩)
    | (go_at_call 18; refine (p3.out _ c mb s2).mono ?_; rintro e w3 ⟨rfl, s3⟩)
    | (go_at_call 18; refine (p2.out _ c mb s1).mono ?_; rintro e w2 ⟨rfl, s2⟩)
    | (go_at_call 18; refine (p1.out _ c mb s0).mono ?_; rintro e w1 ⟨rfl, s1⟩)
    | (go_at_call 16; refine (h16.out _ sn).mono ?_; rintro e w0 ⟨c, mb, rfl, s0⟩)
    | (go_at_call 29; refine h29.out.mono ?_; rintro e wn ⟨rfl, sn⟩))
  go_ret
  exact ⟨rfl, s12.out⟩
end Go.Proofs.YtfmmholkeadejaaGreatDoor
