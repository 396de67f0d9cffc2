/- Writing and syncing while the power may go: without memory. -/
import Derived.Test.YtfmmholkeadejaaGreatDoorZCkTorn
namespace Go.Proofs.YtfmmholkeadejaaGreatDoor

theorem step_two (S : Dk) : (stepE S = 0 ∧ (stepS S).on = S.on) ∨ (stepE S = 23 ∧ (stepS S).on = false) := by
  unfold stepE stepS
  by_cases h : S.armed = true
  · rw [if_pos h, if_pos h]
    by_cases h2 : 0 < S.ahead
    · rw [if_pos h2, if_pos h2]; exact .inl ⟨rfl, rfl⟩
    · rw [if_neg h2, if_neg h2]; exact .inr ⟨rfl, rfl⟩
  · rw [if_neg h, if_neg h]; exact .inl ⟨rfl, rfl⟩
/-- A record is laid, or has no room. -/
theorem lay_two {S : Dk} (hon : S.on = true) (k r : ByteArray) : (layE S r = 22 ∧ layT S k r = S) ∨
    (((layE S r = 0 ∧ (layT S k r).on = true) ∨ (layE S r = 23 ∧ (layT S k r).on = false)) ∧ ∀ k', get (layT S k r).fs k' = if k' = k.data.toList then some ⟨(oldF S k.data.toList).bytes ++ r.data.toList, (oldF S k.data.toList).firm⟩ else get S.fs k') := by
  unfold layE layT
  rw [if_pos hon, if_pos hon]
  cases hf : fitB S [r] with
  | false => exact .inl ⟨by rw [if_neg (by decide)], by rw [if_neg (by decide)]⟩
  | true =>
    refine .inr ⟨?_, fun k' => ?_⟩
    · rw [if_pos rfl, if_pos rfl]
      rcases step_two (layS S k.data.toList [r]) with ⟨h1, h2⟩ | ⟨h1, h2⟩
      · exact .inl ⟨h1, h2.trans hon⟩
      · exact .inr ⟨h1, h2⟩
    · rw [if_pos rfl, stepS_fs]
      unfold layS
      rw [get_put]
      simp [joins]
theorem bts_lay {S S' : Dk} {k r : List UInt8} (h : ∀ k', get S'.fs k' = if k' = k then some ⟨(oldF S k).bytes ++ r, (oldF S k).firm⟩ else get S.fs k') (k' : List UInt8) : bts S' k' = if k' = k then some ((bts S k).getD [] ++ r) else bts S k' := by
  unfold bts
  rw [h]
  by_cases e : k' = k
  · rw [if_pos e, if_pos e]
    unfold oldF
    cases get S.fs k <;> rfl
  · rw [if_neg e, if_neg e]
/-- A file is settled, or the power goes. -/
theorem set_two {S : Dk} (hon : S.on = true) (k : ByteArray) (hk : nameOk k = true) (f : Fl) (hf : get S.fs k.data.toList = some f) :
    (eachE S k = 0 ∧ (setS S k).on = true ∧ ∀ k', get (setS S k).fs k' = if k' = k.data.toList then some ⟨f.bytes, f.bytes.length⟩ else get S.fs k') ∨ (eachE S k = 23 ∧ (setS S k).on = false ∧ (setS S k).fs = S.fs) := by
  have hfd : foundE S k = 0 := by unfold foundE; rw [if_pos hon, if_pos hk, hf]; rfl
  unfold setS eachE eachS
  rw [if_pos hfd, if_pos hfd]
  rcases step_two S with ⟨h1, h2⟩ | ⟨h1, h2⟩
  · refine .inl ⟨h1, ?_, fun k' => ?_⟩
    · rw [if_pos h1]; exact h2.trans hon
    · rw [if_pos h1]
      unfold syncS oldF
      simp only [stepS_fs, hf, get_put]
  · refine .inr ⟨h1, ?_, ?_⟩
    · rw [if_neg (by rw [h1]; decide)]; exact h2
    · rw [if_neg (by rw [h1]; decide), stepS_fs]
theorem bts_set {S S' : Dk} {k : List UInt8} {f : Fl} (hf : get S.fs k = some f) (h : ∀ k', get S'.fs k' = if k' = k then some ⟨f.bytes, f.bytes.length⟩ else get S.fs k') (k' : List UInt8) : bts S' k' = bts S k' := by
  unfold bts
  rw [h]
  by_cases e : k' = k
  · rw [if_pos e, e, hf]; rfl
  · rw [if_neg e]
theorem bts_get {S : Dk} {k b : List UInt8} (h : bts S k = some b) : ∃ f, get S.fs k = some f := by
  unfold bts at h
  cases hg : get S.fs k with
  | none => rw [hg] at h; cases h
  | some f => exact ⟨f, rfl⟩
/-- The newest segment has become firm. -/
theorem Held.set {S S' : Dk} {nm : ByteArray} {L0 : List Sg} {x : Sg} {t : Nat} {f : Fl} (hh : Held S nm (L0 ++ [x]) t) (h : ∀ k', get S'.fs k' = if k' = (fileB nm x.n).data.toList then some ⟨f.bytes, f.bytes.length⟩ else get S.fs k') : FirmAll S' nm (L0 ++ [x]) := fun y hy g hg => by
  rw [h] at hg
  split at hg
  · cases hg; exact Nat.le_refl _
  · rename_i e
    rcases List.mem_append.1 hy with hy | hy
    · exact hh.old L0 x rfl y hy g hg
    · simp at hy; subst hy; exact absurd rfl e
theorem cs23 {S : Dk} {K : Ck} (hl : K.loose = true) (h : csE S K = 23) : (csK S K).broken = true := by
  unfold csK
  rw [if_pos hl, h]
  show heedB 23 = true
  decide
/-- Sync of a cask while the power may go. -/
theorem Good.sync2 {S : Dk} {K : Ck} {L : List Sg} {t : Nat} (h : Good S K L) (hon : S.on = true) (hf : K.Fine) (hh : Held S K.nm L t) (hq : K.loose = false → FirmAll S K.nm L) :
    (csE S K = 0 ∧ (csS S K).on = true ∧ Good (csS S K) (csK S K) L ∧ FirmAll (csS S K) K.nm L ∧ (csK S K).loose = false ∧ ∀ k, bts (csS S K) k = bts S k) ∨ (csE S K = 23 ∧ (csS S K).on = false ∧ (csK S K).broken = true ∧ (csS S K).fs = S.fs) := by
  cases hl : K.loose with
  | true =>
    have e1 : csE S K = eachE S (fileB K.nm (newN K)) := if_pos hl
    have e3 : csS S K = setS S (fileB K.nm (newN K)) := if_pos hl
    obtain ⟨L0, x, eL, hn, hs⟩ := h.name (hf.busy hl)
    obtain ⟨f, hg⟩ := bts_get (h.sound.file x (by rw [eL]; simp))
    rw [← hn] at hg
    rcases set_two hon (fileB K.nm (newN K)) (fileB_ok hf.nm _) f hg with ⟨q1, q2, q3⟩ | ⟨q1, q2, q3⟩
    · have e4 : csE S K = 0 := e1.trans q1
      have e2 : csK S K = syncK K 0 := by unfold csK; rw [if_pos hl, e4]
      have hbt := bts_set hg q3
      refine .inl ⟨e4, by rw [e3]; exact q2, ?_, ?_, by rw [e2]; rfl, by rw [e3]; exact hbt⟩
      · rw [e2, e3]
        exact ⟨h.sound.of (fun k _ => hbt k), h.segs, h.kv, h.recs, h.whole, h.lim, rfl⟩
      · rw [e3]
        rw [hn] at q3
        subst eL
        exact hh.set (f := f) (by rw [hn]; exact q3)
    · exact .inr ⟨e1.trans q1, by rw [e3]; exact q2, cs23 hl (e1.trans q1), by rw [e3]; exact q3⟩
  | false =>
    have e1 : csE S K = 0 := if_neg (by rw [hl]; decide)
    have e3 : csS S K = S := if_neg (by rw [hl]; decide)
    have e2 : csK S K = K := if_neg (by rw [hl]; decide)
    rw [e2, e3]
    exact .inl ⟨e1, hon, h, hq hl, hl, fun _ => rfl⟩
theorem Held.more {S S' : Dk} {nm : ByteArray} {L0 : List Sg} {x : Sg} {ch : Ch} {t : Nat} {r : List UInt8} (hs : Sound S nm (L0 ++ [x])) (hh : Held S nm (L0 ++ [x]) t)
    (hg : ∀ k', get S'.fs k' = if k' = (fileB nm x.n).data.toList then some ⟨(oldF S (fileB nm x.n).data.toList).bytes ++ r, (oldF S (fileB nm x.n).data.toList).firm⟩ else get S.fs k') : Held S' nm (L0 ++ [⟨x.n, x.cs ++ [ch], []⟩]) t := by
  have hlt : ∀ y ∈ L0, y.n < x.n := fun y hy => by
    have := hs.rise
    rw [List.map_append, List.pairwise_append] at this
    exact this.2.2 y.n (List.mem_map.2 ⟨y, hy, rfl⟩) x.n (by simp)
  have hmem : ∀ y ∈ (L0 ++ [⟨x.n, x.cs ++ [ch], []⟩] : List Sg), (y ∈ L0) ∨ y = ⟨x.n, x.cs ++ [ch], []⟩ := fun y hy => by simpa using hy
  refine ⟨fun y hy => ?_, fun L1 x1 e => ?_, fun L1 x1 e => ?_, fun e => by simp at e⟩
  · rcases hmem y hy with hy | rfl
    · exact hh.torn y (by simp [hy])
    · exact .inl rfl
  · obtain ⟨rfl, e2⟩ := List.append_inj' e rfl
    simp at e2; subst e2
    intro y hy f hf
    rw [hg, if_neg (fun e => by
      have := fileB_inj nm (hs.num y (by simp [hy])).2 (hs.num x (by simp)).2 e
      have := hlt y hy
      omega)] at hf
    exact hh.old L0 x rfl y hy f hf
  · obtain ⟨rfl, e2⟩ := List.append_inj' e rfl
    simp at e2; subst e2
    obtain ⟨j, j1, j2, j3⟩ := hh.new L0 x rfl
    refine ⟨j, by simp; omega, j2, fun f hf => ?_⟩
    rw [hg, if_pos rfl] at hf
    cases hf
    obtain ⟨f0, hf0⟩ := bts_get (hs.file x (by simp))
    have := j3 f0 hf0
    simp only [oldF, hf0]
    rw [List.take_append_of_le_length j1]
    exact this
theorem Held.begin {S S' : Dk} {nm : ByteArray} {L : List Sg} {n : Nat} {ch : Ch} {t : Nat} {F : Option Fl} (hs : Sound S nm L) (ha : FirmAll S nm L) (ht : ∀ x ∈ L, Torn x.tl) (hl : t ≤ (L.flatMap Sg.cs).length) (hn : ∀ x ∈ L, x.n < n) (h9 : n ≤ 999999)
    (hg : ∀ k', get S'.fs k' = if k' = (fileB nm n).data.toList then F else get S.fs k') : Held S' nm (L ++ [⟨n, [ch], []⟩]) t := by
  have hmem : ∀ y ∈ (L ++ [⟨n, [ch], []⟩] : List Sg), (y ∈ L) ∨ y = ⟨n, [ch], []⟩ := fun y hy => by simpa using hy
  refine ⟨fun y hy => ?_, fun L1 x1 e => ?_, fun L1 x1 e => ?_, fun e => by simp at e⟩
  · rcases hmem y hy with hy | rfl
    · exact ht y hy
    · exact .inl rfl
  · obtain ⟨rfl, e2⟩ := List.append_inj' e rfl
    intro y hy f hf
    rw [hg, if_neg (fun e => by
      have := fileB_inj nm (hs.num y hy).2 h9 e
      have := hn y hy
      omega)] at hf
    exact ha y hy f hf
  · obtain ⟨rfl, e2⟩ := List.append_inj' e rfl
    exact ⟨0, Nat.zero_le _, by omega, fun f hf => by simp⟩
theorem Good.below {S : Dk} {K : Ck} {L : List Sg} (h : Good S K L) : ∀ x ∈ L, x.n < newN K + 1 := fun x hx => by
  have hne : K.segs ≠ [] := fun e => by
    have : x.n ∈ K.segs := by rw [h.segs]; exact List.mem_map.2 ⟨x, hx, rfl⟩
    rw [e] at this; cases this
  obtain ⟨L0, y, rfl, hn, _⟩ := h.name hne
  rw [hn]
  rcases List.mem_append.1 hx with hx | hx
  · have := h.sound.rise
    rw [List.map_append, List.pairwise_append] at this
    have := this.2.2 x.n (List.mem_map.2 ⟨x, hx, rfl⟩) y.n (by simp)
    omega
  · simp at hx; subst hx; omega
/-- What a writing comes to while the power may go. -/
def Wrote2 (K : Ck) (L : List Sg) (ch : Ch) (t : Nat) (E : Int) (S' : Dk) (K' : Ck) : Prop :=
  (E = 0 ∧ S'.on = true ∧ ∃ L', Good S' (laidK K' ch) L' ∧ L'.flatMap Sg.cs = L.flatMap Sg.cs ++ [ch] ∧ L'.length ≤ L.length + 1 ∧ Held S' K.nm L' t) ∨
  (E = 22 ∧ S'.on = true ∧ Good S' K' L ∧ Held S' K.nm L t ∧ (K'.loose = false → FirmAll S' K.nm L)) ∨
  (E = 23 ∧ S'.on = false ∧ K'.broken = true ∧ ∃ L', Sound S' K.nm L' ∧ Held S' K.nm L' t ∧ L'.length ≤ L.length + 1 ∧ (∀ x ∈ L', x.n ≤ newN K + 1) ∧ (L'.flatMap Sg.cs = L.flatMap Sg.cs ∨ L'.flatMap Sg.cs = L.flatMap Sg.cs ++ [ch]))
theorem chR_list (ch : Ch) : (chR ch).data.toList = chB ch := by simp [chR, Pk.strL]
theorem heed23 : heedB 23 = true := by decide
theorem Good.write2 {S : Dk} {K : Ck} {L : List Sg} {ch : Ch} {t : Nat} (h : Good S K L) (hon : S.on = true) (hf : K.Fine) (hok : ch.Ok) (hnew : newN K < 999999) (hh : Held S K.nm L t) (ht : t ≤ (L.flatMap Sg.cs).length) (hq : K.loose = false → FirmAll S K.nm L) :
    Wrote2 K L ch t (stE S K (chR ch)) (stS S K (chR ch)) (stK S K (chR ch)) := by
  by_cases hl : 0 < K.left
  · have e1 : stE S K (chR ch) = layE S (chR ch) := if_pos hl
    have e2 : stS S K (chR ch) = layT S (fileB K.nm (newN K)) (chR ch) := if_pos hl
    have e3 : stK S K (chR ch) = { K with broken := heedB (layE S (chR ch)) } := if_pos hl
    obtain ⟨L0, x, rfl, hn, hs⟩ := h.name (hf.live hl)
    have htl : x.tl = [] := h.whole hl x (by simp)
    rw [e1, e2, e3, hn]
    rcases lay_two hon (fileB K.nm x.n) (chR ch) with ⟨q1, q2⟩ | ⟨q1, q2⟩
    · rw [q1, q2, heed22]
      exact .inr (.inl ⟨rfl, hon, ⟨h.sound, h.segs, h.kv, h.recs, h.whole, h.lim, rfl⟩, hh, hq⟩)
    · have hsd : Sound (layT S (fileB K.nm x.n) (chR ch)) K.nm (L0 ++ [⟨x.n, x.cs ++ [ch], []⟩]) := h.sound.more htl hok (bts_lay q2)
      have hhd : Held (layT S (fileB K.nm x.n) (chR ch)) K.nm (L0 ++ [⟨x.n, x.cs ++ [ch], []⟩]) t := Held.more h.sound hh q2
      rcases q1 with ⟨q1, q3⟩ | ⟨q1, q3⟩
      · rw [q1, heed0]
        refine .inl ⟨rfl, q3, L0 ++ [(⟨x.n, x.cs ++ [ch], []⟩ : Sg)], ⟨hsd, ?_, ?_, ?_, fun _ y hy => ?_, ?_, rfl⟩, by simp, by simp, hhd⟩
        · show K.segs = _
          rw [h.segs]; simp
        · show takeF ch K.kv = _
          rw [h.kv]; simp
        · show K.recs + 1 = _
          rw [h.recs]; simp; omega
        · simp at hy; rw [← hy]
        · show K.left - _ ≤ 4096
          have := h.lim; omega
      · rw [q1, heed23]
        refine .inr (.inr ⟨rfl, q3, rfl, _, hsd, hhd, by simp, fun y hy => ?_, .inr (by simp)⟩)
        have hbl := h.below
        rcases List.mem_append.1 hy with hy | hy
        · have := hbl y (by simp [hy]); omega
        · simp at hy; subst hy
          have := hbl x (by simp); show x.n ≤ _; omega
  · obtain ⟨k1, k2, k3, k4, k5⟩ := csK_same S K
    have hlt := h.below
    rcases h.sync2 hon hf hh hq with ⟨s1, s2, s3, s4, s5, s6⟩ | ⟨s1, s2, s3, s4⟩
    · have e1 : stE S K (chR ch) = layE (csS S K) (chR ch) := by rw [stE, if_neg hl, bgE, if_pos s1]
      have e2 : stS S K (chR ch) = layT (csS S K) (bgF K) (chR ch) := by rw [stS, if_neg hl, bgS, if_pos s1]
      rw [e1, e2]
      rcases lay_two s2 (bgF K) (chR ch) with ⟨q1, q2⟩ | ⟨q1, q2⟩
      · have e3 : stK S K (chR ch) = { csK S K with broken := heedB 22 } := by rw [stK, if_neg hl, bgK, if_pos s1, q1, if_neg (by decide)]
        rw [e3, q1, q2, heed22]
        refine .inr (.inl ⟨rfl, s2, ⟨s3.sound, s3.segs, s3.kv, s3.recs, s3.whole, s3.lim, rfl⟩, ?_, fun _ => s4⟩)
        have hsn := s3.sound
        rw [k1] at hsn
        exact (s4.held hsn hh.torn).mono ht
      · have hsn := s3.sound
        rw [k1] at hsn
        have hbg : (bgF K).data.toList = (fileB K.nm (newN K + 1)).data.toList := rfl
        rw [hbg] at q2
        have hsd : Sound (layT (csS S K) (bgF K) (chR ch)) K.nm (L ++ [⟨newN K + 1, [ch], []⟩]) := hsn.begin hlt (by omega) (by omega) hok (bts_lay q2)
        have hhd : Held (layT (csS S K) (bgF K) (chR ch)) K.nm (L ++ [⟨newN K + 1, [ch], []⟩]) t := Held.begin hsn s4 hh.torn ht hlt (by omega) q2
        rcases q1 with ⟨q1, q3⟩ | ⟨q1, q3⟩
        · have e3 : stK S K (chR ch) = { csK S K with broken := false, segs := K.segs ++ [newN K + 1], left := 4096 } := by rw [stK, if_neg hl, bgK, if_pos s1, if_pos q1]
          rw [e3, q1]
          refine .inl ⟨rfl, q3, L ++ [(⟨newN K + 1, [ch], []⟩ : Sg)], ⟨?_, ?_, ?_, ?_, fun _ y hy => ?_, ?_, rfl⟩, by simp, by simp, hhd⟩
          · show Sound _ (csK S K).nm _
            rw [k1]; exact hsd
          · show K.segs ++ [newN K + 1] = _
            rw [h.segs]; simp
          · show takeF ch (csK S K).kv = _
            rw [k3, h.kv]; simp
          · show (csK S K).recs + 1 = _
            rw [k4, h.recs]; simp
          · simp at hy; rw [← hy]
          · show (4096 : Int) - _ ≤ 4096
            omega
        · have e3 : stK S K (chR ch) = { csK S K with broken := heedB 23 } := by rw [stK, if_neg hl, bgK, if_pos s1, q1, if_neg (by decide)]
          rw [e3, q1, heed23]
          refine .inr (.inr ⟨rfl, q3, rfl, _, hsd, hhd, by simp, fun y hy => ?_, .inr (by simp)⟩)
          rcases List.mem_append.1 hy with hy | hy
          · have := hlt y hy; omega
          · simp at hy; subst hy; exact Nat.le_refl _
    · have e1 : stE S K (chR ch) = 23 := by rw [stE, if_neg hl, bgE, if_neg (by rw [s1]; decide), s1]
      have e2 : stS S K (chR ch) = csS S K := by rw [stS, if_neg hl, bgS, if_neg (by rw [s1]; decide)]
      have e3 : stK S K (chR ch) = csK S K := by rw [stK, if_neg hl, bgK, if_neg (by rw [s1]; decide)]
      rw [e1, e2, e3]
      exact .inr (.inr ⟨rfl, s2, s3, L, h.sound.fs s4, hh.of s4, by omega, fun y hy => by have := hlt y hy; omega, .inl rfl⟩)
end Go.Proofs.YtfmmholkeadejaaGreatDoor
