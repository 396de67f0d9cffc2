/- What renew comes to: without memory. -/
import Derived.Test.YtfmmholkeadejaaGreatDoorZS1
import Derived.Test.YtfmmholkeadejaaGreatDoorZCkPow
namespace Go.Proofs.YtfmmholkeadejaaGreatDoor

theorem stepS_room (S : Dk) : (stepS S).room = S.room := by
  unfold stepS
  split
  · split <;> rfl
  · rfl
theorem stepS_armed (S : Dk) (h : S.armed = false) : (stepS S).armed = false ∧ stepE S = 0 := by
  unfold stepS stepE
  rw [if_neg (by rw [h]; decide), if_neg (by rw [h]; decide)]
  exact ⟨h, rfl⟩
/-- What a step of renew leaves. -/
structure Kept (S S' : Dk) (E : Int) : Prop where
  room : S'.room = S.room
  calm : S.armed = false → S'.armed = false ∧ E ≠ 23
theorem step_kept (S T : Dk) (hr : T.room = S.room) (ha : T.armed = S.armed) : Kept S (stepS T) (stepE T) := ⟨(stepS_room T).trans hr, fun h => by
  have := stepS_armed T (ha.trans h)
  exact ⟨this.1, by rw [this.2]; decide⟩⟩
theorem rn_del {S : Dk} (hon : S.on = true) (hr : Rising S.fs) (C : ByteArray) (hC : nameOk C = true) :
    Kept S (delS S C) (unlE (eachE S C)) ∧ ((unlE (eachE S C) = 0 ∧ (delS S C).on = true ∧ ∀ k, get (delS S C).fs k = if k = C.data.toList then none else get S.fs k) ∨ (unlE (eachE S C) = 23 ∧ (delS S C).on = false ∧ (delS S C).fs = S.fs)) := by
  unfold delS eachE eachS
  cases hg : get S.fs C.data.toList with
  | none =>
    have hfd : foundE S C = 21 := by unfold foundE; rw [if_pos hon, if_pos hC, hg]; rfl
    rw [hfd, if_neg (by decide), if_neg (by decide)]
    refine ⟨⟨rfl, fun h => ⟨h, by decide⟩⟩, .inl ⟨by decide, hon, fun k => ?_⟩⟩
    by_cases e : k = C.data.toList
    · rw [if_pos e, e]; exact hg
    · rw [if_neg e]
  | some f =>
    have hfd : foundE S C = 0 := by unfold foundE; rw [if_pos hon, if_pos hC, hg]; rfl
    rw [if_pos hfd, if_pos hfd]
    rcases step_two S with ⟨h1, h2⟩ | ⟨h1, h2⟩
    · rw [h1]
      simp only [if_true]
      refine ⟨⟨stepS_room S, fun h => ⟨(stepS_armed S h).1, by decide⟩⟩, .inl ⟨by decide, h2.trans hon, fun k => ?_⟩⟩
      unfold dropS
      simp only [stepS_fs]
      rw [get_del hr]
    · rw [h1]
      rw [if_neg (by decide)]
      refine ⟨⟨stepS_room S, fun h => ?_⟩, .inr ⟨by decide, h2, stepS_fs S⟩⟩
      have := (stepS_armed S h).2
      rw [h1] at this; cases this
theorem rn_lay {S : Dk} (hon : S.on = true) (C lb : ByteArray) (hg : get S.fs C.data.toList = none) :
    Kept S (laysT S C [lb]) (laysE S [lb]) ∧ ((laysE S [lb] = 22 ∧ laysT S C [lb] = S ∧ ¬ used S.fs + lb.size ≤ S.room) ∨
    (((laysE S [lb] = 0 ∧ (laysT S C [lb]).on = true) ∨ (laysE S [lb] = 23 ∧ (laysT S C [lb]).on = false)) ∧ ∀ k, get (laysT S C [lb]).fs k = if k = C.data.toList then some ⟨lb.data.toList, 0⟩ else get S.fs k)) := by
  have e : laysE S [lb] = layE S lb := rfl
  have e2 : laysT S C [lb] = layT S C lb := rfl
  rw [e, e2]
  refine ⟨?_, ?_⟩
  · unfold layE layT
    rw [if_pos hon, if_pos hon]
    split
    · exact step_kept S _ rfl rfl
    · exact ⟨rfl, fun h => ⟨h, by decide⟩⟩
  · rcases lay_two hon C lb with ⟨q1, q2⟩ | ⟨q1, q2⟩
    · refine .inl ⟨q1, q2, fun hf => ?_⟩
      unfold layE at q1
      rw [if_pos hon, fit_of hf, if_pos rfl] at q1
      rcases step_two S with ⟨h1, _⟩ | ⟨h1, _⟩ <;> rw [h1] at q1 <;> cases q1
    · refine .inr ⟨q1, fun k => ?_⟩
      rw [q2]
      unfold oldF
      rw [hg]
      simp
theorem rn_set {S : Dk} (hon : S.on = true) (C : ByteArray) (hC : nameOk C = true) (f : Fl) (hg : get S.fs C.data.toList = some f) : Kept S (setS S C) (eachE S C) := by
  have hfd : foundE S C = 0 := by unfold foundE; rw [if_pos hon, if_pos hC, hg]; rfl
  unfold setS eachE eachS
  rw [if_pos hfd, if_pos hfd]
  split
  · have := step_kept S S rfl rfl
    exact ⟨this.room, this.calm⟩
  · exact step_kept S S rfl rfl
theorem rn_ren {S : Dk} (hon : S.on = true) (hr : Rising S.fs) (C F : ByteArray) (hC : nameOk C = true) (hF : nameOk F = true) (f : Fl) (hg : get S.fs C.data.toList = some f) :
    Kept S (renS S C F) (renE S C F) ∧ ((renE S C F = 0 ∧ (renS S C F).on = true ∧ ∀ k, get (renS S C F).fs k = if k = F.data.toList then some f else if k = C.data.toList then none else get S.fs k) ∨ (renE S C F = 23 ∧ (renS S C F).on = false ∧ (renS S C F).fs = S.fs)) := by
  have hn : namedE S [C, F] = 0 := by
    unfold namedE namE
    rw [if_pos hon]
    simp [hC, hF]
  have hfd : foundE S C = 0 := by unfold foundE; rw [if_pos hon, if_pos hC, hg]; rfl
  unfold renE renS eachE eachS
  rw [if_pos hn, if_pos hn, if_pos hfd, if_pos hfd]
  rcases step_two S with ⟨h1, h2⟩ | ⟨h1, h2⟩
  · rw [if_pos h1]
    have hk := step_kept S S rfl rfl
    refine ⟨⟨hk.room, hk.calm⟩, .inl ⟨h1, h2.trans hon, fun k => ?_⟩⟩
    unfold moveS oldF
    simp only [stepS_fs, hg, get_put]
    by_cases e : k = F.data.toList
    · rw [if_pos e, if_pos e]
    · rw [if_neg e, if_neg e, get_del hr]
  · rw [if_neg (by rw [h1]; decide)]
    exact ⟨step_kept S S rfl rfl, .inr ⟨h1, h2, stepS_fs S⟩⟩
/-- What renew comes to. -/
structure RnOut (S : Dk) (F lb : ByteArray) (E : Int) (S' : Dk) : Prop where
  kept : Kept S S' E
  others : ∀ k, k ≠ F.data.toList → k ≠ (comB F).data.toList → get S'.fs k = get S.fs k
  com : get S'.fs (comB F).data.toList = none ∨ get S'.fs (comB F).data.toList = get S.fs (comB F).data.toList ∨ ∃ n, get S'.fs (comB F).data.toList = some ⟨lb.data.toList, n⟩
  out : (E = 0 ∧ S'.on = true ∧ get S'.fs F.data.toList = some ⟨lb.data.toList, lb.data.toList.length⟩) ∨ (E = 22 ∧ S'.on = true ∧ get S'.fs F.data.toList = get S.fs F.data.toList) ∨ (E = 23 ∧ S'.on = false ∧ get S'.fs F.data.toList = get S.fs F.data.toList)
  fits : used S.fs + lb.size ≤ S.room → E ≠ 22
theorem used_delS {S : Dk} (C : ByteArray) : used (delS S C).fs ≤ used S.fs := by
  unfold delS eachS
  split
  · split
    · unfold dropS
      simp only [stepS_fs]
      have := used_del S.fs C.data.toList
      omega
    · rw [stepS_fs]; exact Nat.le_refl _
  · exact Nat.le_refl _
theorem rising_delS {S : Dk} (hr : Rising S.fs) (C : ByteArray) : Rising (delS S C).fs := by
  unfold delS eachS
  split
  · split
    · unfold dropS
      simp only [stepS_fs]
      exact hr.del _
    · rw [stepS_fs]; exact hr
  · exact hr
theorem rn_out {S : Dk} (hon : S.on = true) (hr : Rising S.fs) (F lb : ByteArray) (hF : nameOk F = true) (hC : nameOk (comB F) = true) (hne : (comB F).data.toList ≠ F.data.toList) : RnOut S F lb (rnE S F [lb]) (rnS S F [lb]) := by
  obtain ⟨k1, o1⟩ := rn_del hon hr (comB F) hC
  have hr1 : Rising (rn1 S F).fs := rising_delS hr _
  have hA : rnA S F = unlE (eachE S (comB F)) := rfl
  have hneF : F.data.toList ≠ (comB F).data.toList := fun e => hne e.symm
  rcases o1 with ⟨a1, a2, a3⟩ | ⟨a1, a2, a3⟩
  · have eA : ¬ rnA S F ≠ 0 := fun h => h (hA.trans a1)
    have hg1 : get (rn1 S F).fs (comB F).data.toList = none := by show get (delS S (comB F)).fs _ = _; rw [a3, if_pos rfl]
    obtain ⟨k2, o2⟩ := rn_lay (S := rn1 S F) a2 (comB F) lb hg1
    rcases o2 with ⟨b1, b2, b3⟩ | ⟨b1, b2⟩
    · have eB : rnB S F [lb] = 22 := b1
      have e1 : rnE S F [lb] = 22 := by unfold rnE sq4E; rw [if_neg eA, if_pos (by rw [eB]; decide), eB]
      have e2 : rnS S F [lb] = rn1 S F := by unfold rnS; rw [if_neg eA, if_pos (by rw [eB]; decide)]; exact b2
      rw [e1, e2]
      refine ⟨⟨k1.room, fun h => ⟨(k1.calm h).1, by decide⟩⟩, fun k h1 h2 => ?_, .inl hg1, .inr (.inl ⟨rfl, a2, ?_⟩), fun hf => ?_⟩
      · show get (delS S (comB F)).fs k = _; rw [a3, if_neg h2]
      · show get (delS S (comB F)).fs _ = _; rw [a3, if_neg hneF]
      · have : used (rn1 S F).fs ≤ used S.fs := used_delS _
        have hroom : (rn1 S F).room = S.room := k1.room
        rw [hroom] at b3
        omega
    · have hg2 : get (rn2 S F [lb]).fs (comB F).data.toList = some ⟨lb.data.toList, 0⟩ := by show get (laysT (rn1 S F) (comB F) [lb]).fs _ = _; rw [b2, if_pos rfl]
      have ho2 : ∀ k, k ≠ (comB F).data.toList → get (rn2 S F [lb]).fs k = get S.fs k := fun k hk => by
        show get (laysT (rn1 S F) (comB F) [lb]).fs k = _
        rw [b2, if_neg hk]
        show get (delS S (comB F)).fs k = _
        rw [a3, if_neg hk]
      rcases b1 with ⟨b1, b4⟩ | ⟨b1, b4⟩
      · have eB : ¬ rnB S F [lb] ≠ 0 := fun h => h b1
        have k3 := rn_set (S := rn2 S F [lb]) b4 (comB F) hC _ hg2
        rcases set_two (S := rn2 S F [lb]) b4 (comB F) hC _ hg2 with ⟨c1, c2, c3⟩ | ⟨c1, c2, c3⟩
        · have eC : ¬ rnC S F [lb] ≠ 0 := fun h => h c1
          have hg3 : get (rn3 S F [lb]).fs (comB F).data.toList = some ⟨lb.data.toList, lb.data.toList.length⟩ := by show get (setS (rn2 S F [lb]) (comB F)).fs _ = _; rw [c3, if_pos rfl]
          have ho3 : ∀ k, k ≠ (comB F).data.toList → get (rn3 S F [lb]).fs k = get S.fs k := fun k hk => by
            show get (setS (rn2 S F [lb]) (comB F)).fs k = _
            rw [c3, if_neg hk, ho2 k hk]
          have hr3 : Rising (rn3 S F [lb]).fs := by
            have hr2 : Rising (rn2 S F [lb]).fs := (lay_sized hr1 (comB F) lb).rise
            exact (set_sized hr2 (comB F)).2.2.2
          obtain ⟨k4, o4⟩ := rn_ren (S := rn3 S F [lb]) c2 hr3 (comB F) F hC hF _ hg3
          have e1 : rnE S F [lb] = rnD S F [lb] := by unfold rnE sq4E; rw [if_neg eA, if_neg eB, if_neg eC]
          have e2 : rnS S F [lb] = rn4 S F [lb] := by unfold rnS; rw [if_neg eA, if_neg eB, if_neg eC]
          rw [e1, e2]
          have kk : Kept S (rn4 S F [lb]) (rnD S F [lb]) := ⟨k4.room.trans (k3.room.trans (k2.room.trans k1.room)), fun h => k4.calm (k3.calm (k2.calm (k1.calm h).1).1).1⟩
          rcases o4 with ⟨d1, d2, d3⟩ | ⟨d1, d2, d3⟩
          · refine ⟨kk, fun k h1 h2 => ?_, .inl ?_, .inl ⟨d1, d2, ?_⟩, fun _ => ?_⟩
            · show get (renS (rn3 S F [lb]) (comB F) F).fs k = _; rw [d3, if_neg h1, if_neg h2, ho3 k h2]
            · show get (renS (rn3 S F [lb]) (comB F) F).fs _ = _; rw [d3, if_neg hne, if_pos rfl]
            · show get (renS (rn3 S F [lb]) (comB F) F).fs _ = _; rw [d3, if_pos rfl]
            · show renE _ _ _ ≠ 22; rw [d1]; decide
          · refine ⟨kk, fun k h1 h2 => ?_, .inr (.inr ⟨lb.data.toList.length, ?_⟩), .inr (.inr ⟨d1, d2, ?_⟩), fun _ => ?_⟩
            · show get (renS (rn3 S F [lb]) (comB F) F).fs k = _; rw [d3]; exact ho3 k h2
            · show get (renS (rn3 S F [lb]) (comB F) F).fs _ = _; rw [d3]; exact hg3
            · show get (renS (rn3 S F [lb]) (comB F) F).fs _ = _; rw [d3]; exact ho3 _ hneF
            · show renE _ _ _ ≠ 22; rw [d1]; decide
        · have eC : rnC S F [lb] = 23 := c1
          have e1 : rnE S F [lb] = 23 := by unfold rnE sq4E; rw [if_neg eA, if_neg eB, if_pos (by rw [eC]; decide), eC]
          have e2 : rnS S F [lb] = rn3 S F [lb] := by unfold rnS; rw [if_neg eA, if_neg eB, if_pos (by rw [eC]; decide)]
          rw [e1, e2]
          refine ⟨⟨k3.room.trans (k2.room.trans k1.room), fun h => absurd c1 (k3.calm (k2.calm (k1.calm h).1).1).2⟩, fun k h1 h2 => ?_, .inr (.inr ⟨0, ?_⟩), .inr (.inr ⟨rfl, c2, ?_⟩), fun _ => by decide⟩
          · show get (setS (rn2 S F [lb]) (comB F)).fs k = _; rw [c3]; exact ho2 k h2
          · show get (setS (rn2 S F [lb]) (comB F)).fs _ = _; rw [c3]; exact hg2
          · show get (setS (rn2 S F [lb]) (comB F)).fs _ = _; rw [c3]; exact ho2 _ hneF
      · have eB : rnB S F [lb] = 23 := b1
        have e1 : rnE S F [lb] = 23 := by unfold rnE sq4E; rw [if_neg eA, if_pos (by rw [eB]; decide), eB]
        have e2 : rnS S F [lb] = rn2 S F [lb] := by unfold rnS; rw [if_neg eA, if_pos (by rw [eB]; decide)]
        rw [e1, e2]
        exact ⟨⟨k2.room.trans k1.room, fun h => absurd b1 (k2.calm (k1.calm h).1).2⟩, fun k h1 h2 => ho2 k h2, .inr (.inr ⟨0, hg2⟩), .inr (.inr ⟨rfl, b4, ho2 _ hneF⟩), fun _ => by decide⟩
  · have eA : rnA S F = 23 := hA.trans a1
    have e1 : rnE S F [lb] = 23 := by unfold rnE sq4E; rw [if_pos (by rw [eA]; decide), eA]
    have e2 : rnS S F [lb] = rn1 S F := by unfold rnS; rw [if_pos (by rw [eA]; decide)]
    rw [e1, e2]
    refine ⟨⟨k1.room, fun h => absurd a1 (k1.calm h).2⟩, fun k h1 h2 => ?_, .inr (.inl ?_), .inr (.inr ⟨rfl, a2, ?_⟩), fun _ => by decide⟩
    · show get (delS S (comB F)).fs k = _; rw [a3]
    · show get (delS S (comB F)).fs _ = _; rw [a3]
    · show get (delS S (comB F)).fs _ = _; rw [a3]
end Go.Proofs.YtfmmholkeadejaaGreatDoor
