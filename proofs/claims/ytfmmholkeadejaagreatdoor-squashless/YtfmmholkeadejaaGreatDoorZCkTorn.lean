/- What a crash leaves of a cask's segments: without memory. -/
import Derived.Test.YtfmmholkeadejaaGreatDoorZC6
import Derived.Test.YtfmmholkeadejaaGreatDoorZCrash
import Derived.Test.YtfmmholkeadejaaGreatDoorZP3
namespace Go.Proofs.YtfmmholkeadejaaGreatDoor

/-- A beginning of a record, or nothing. -/
def Torn (tl : List UInt8) : Prop := tl = [] ∨ ∃ ch : Ch, ch.Ok ∧ ∃ j, j < (chB ch).length ∧ tl = (chB ch).take j
theorem Torn.short {tl : List UInt8} (h : Torn tl) (hne : tl ≠ []) : Pk.uE (Pk.strL tl) = 10 := by
  rcases h with h | ⟨ch, ho, j, hj, e⟩
  · exact absurd h hne
  · exact Pk.cut_err (Pk.strL (bodyL ch.k ch.v ch.dead)) (rec_size _ _ _ ho) (Pk.strL tl) j hj (by rw [e]; simp [Pk.strL]; rfl)
theorem Torn.take {tl : List UInt8} (h : Torn tl) (m : Nat) : Torn (tl.take m) := by
  rcases h with h | ⟨ch, ho, j, hj, e⟩
  · exact .inl (by rw [h]; simp)
  · exact .inr ⟨ch, ho, min m j, by omega, by rw [e, List.take_take]⟩
/-- Records and a torn one, cut anywhere. -/
theorem cut_some : ∀ (cs : List Ch) (tl : List UInt8), (∀ c ∈ cs, c.Ok) → Torn tl → ∀ m, ∃ j tl', j ≤ cs.length ∧ Torn tl' ∧ (cs.flatMap chB ++ tl).take m = (cs.take j).flatMap chB ++ tl' ∧ (∀ i, i ≤ cs.length → ((cs.take i).flatMap chB).length ≤ m → i ≤ j)
  | [], tl, _, ht, m => ⟨0, tl.take m, by simp, ht.take m, by simp, fun i hi _ => by simpa using hi⟩
  | c :: cs, tl, ho, ht, m => by
    by_cases hm : (chB c).length ≤ m
    · obtain ⟨j, tl', h1, h2, h3, h4⟩ := cut_some cs tl (fun x hx => ho x (by simp [hx])) ht (m - (chB c).length)
      refine ⟨j + 1, tl', by simp; omega, h2, ?_, fun i hi hl => ?_⟩
      · rw [List.flatMap_cons, List.append_assoc, List.take_append, List.take_of_length_le hm, h3]
        simp
      · cases i with
        | zero => omega
        | succ i =>
          simp only [List.take_succ_cons, List.flatMap_cons, List.length_append, List.length_cons] at hl hi
          have := h4 i (by omega) (by omega)
          omega
    · refine ⟨0, (chB c).take m, Nat.zero_le _, .inr ⟨c, ho c (by simp), m, by omega, rfl⟩, ?_, fun i hi hl => ?_⟩
      · rw [List.flatMap_cons, List.append_assoc, List.take_append, show m - (chB c).length = 0 by omega]
        simp
      · cases i with
        | zero => omega
        | succ i =>
          simp only [List.take_succ_cons, List.flatMap_cons, List.length_append] at hl
          omega
/-- What is left of a file. -/
def Rest (f g : Fl) : Prop := ∃ m, m ≤ f.bytes.length ∧ (f.firm ≤ m ∨ m = f.bytes.length) ∧ g = ⟨f.bytes.take m, m⟩
theorem crash1_rest (f : Fl) (ps : List Int) : Rest f (crash1 f ps).1 := by
  unfold crash1
  split
  · exact ⟨f.bytes.length, Nat.le_refl _, .inr rfl, by simp⟩
  · have := staysN_le (ps.headD 0) (f.bytes.length - f.firm)
    refine ⟨f.firm + staysN (ps.headD 0) (f.bytes.length - f.firm), by omega, .inl (by omega), ?_⟩
    simp only [List.length_take]
    rw [Nat.min_eq_left (by omega)]
theorem crash_get : ∀ (fs : Fs) (ps : List Int) (k : List UInt8), (get fs k = none → get (crashD fs ps).1 k = none) ∧ ∀ f, get fs k = some f → ∃ g, get (crashD fs ps).1 k = some g ∧ Rest f g
  | [], ps, k => ⟨fun _ => rfl, fun f h => by cases h⟩
  | p :: r, ps, k => by
    obtain ⟨h1, h2⟩ := crash_get r (crash1 p.2 ps).2 k
    rw [crashD]
    by_cases e : k = p.1
    · refine ⟨fun h => (by rw [get, if_pos e] at h; cases h), fun f h => ?_⟩
      rw [get, if_pos e] at h
      cases h
      exact ⟨_, by rw [get, if_pos e], crash1_rest _ _⟩
    · refine ⟨fun h => ?_, fun f h => ?_⟩
      · rw [get, if_neg e] at h ⊢
        exact h1 h
      · rw [get, if_neg e] at h ⊢
        exact h2 f h
/-- All of a name's bytes are firm. -/
def FirmAll (S : Dk) (nm : ByteArray) (L : List Sg) : Prop := ∀ y ∈ L, ∀ f, get S.fs (fileB nm y.n).data.toList = some f → f.bytes.length ≤ f.firm
/-- The segments ahead of the newest one are firm, and t changes in all. -/
structure Held (S : Dk) (nm : ByteArray) (L : List Sg) (t : Nat) : Prop where
  torn : ∀ x ∈ L, Torn x.tl
  old : ∀ L0 x, L = L0 ++ [x] → FirmAll S nm L0
  new : ∀ L0 x, L = L0 ++ [x] → ∃ j, j ≤ x.cs.length ∧ t ≤ (L0.flatMap Sg.cs).length + j ∧ ∀ f, get S.fs (fileB nm x.n).data.toList = some f → ((x.cs.take j).flatMap chB).length ≤ f.firm
  none : L = [] → t = 0
theorem flat_whole (cs : List Ch) (j : Nat) : ((cs.take j).flatMap chB).length ≤ (cs.flatMap chB).length := by
  have e : cs.flatMap chB = (cs.take j).flatMap chB ++ (cs.drop j).flatMap chB := by rw [← List.flatMap_append, List.take_append_drop]
  rw [e, List.length_append]; omega
theorem get_of_bts {S : Dk} {k : List UInt8} {b : List UInt8} {f : Fl} (h : bts S k = some b) (hf : get S.fs k = some f) : f.bytes = b := by
  unfold bts at h
  rw [hf] at h
  simpa using h
theorem FirmAll.held {S : Dk} {nm : ByteArray} {L : List Sg} (h : FirmAll S nm L) (hs : Sound S nm L) (ht : ∀ x ∈ L, Torn x.tl) : Held S nm L (L.flatMap Sg.cs).length := by
  refine ⟨ht, fun L0 x e y hy f hf => h y (by rw [e]; simp [hy]) f hf, fun L0 x e => ⟨x.cs.length, Nat.le_refl _, by rw [e]; simp, fun f hf => ?_⟩, fun e => by rw [e]; rfl⟩
  have hx : x ∈ L := by rw [e]; simp
  have := get_of_bts (hs.file x hx) hf
  have h2 := h x hx f hf
  rw [List.take_length]
  rw [this] at h2
  simp only [List.length_append] at h2
  omega
theorem Held.mono {S : Dk} {nm : ByteArray} {L : List Sg} {t s : Nat} (h : Held S nm L t) (hs : s ≤ t) : Held S nm L s :=
  ⟨h.torn, h.old, fun L0 x e => by obtain ⟨j, q1, q2, q3⟩ := h.new L0 x e; exact ⟨j, q1, by omega, q3⟩, fun e => by have := h.none e; omega⟩
theorem Held.of {S S' : Dk} {nm : ByteArray} {L : List Sg} {t : Nat} (h : Held S nm L t) (hf : S'.fs = S.fs) : Held S' nm L t := by
  refine ⟨h.torn, fun L0 x e y hy f => by rw [hf]; exact h.old L0 x e y hy f, fun L0 x e => ?_, h.none⟩
  obtain ⟨j, q1, q2, q3⟩ := h.new L0 x e
  exact ⟨j, q1, q2, fun f => by rw [hf]; exact q3 f⟩
theorem Sound.fs {S S' : Dk} {nm : ByteArray} {L : List Sg} (h : Sound S nm L) (hf : S'.fs = S.fs) : Sound S' nm L := h.of fun k _ => by unfold bts; rw [hf]
theorem FirmAll.fs {S S' : Dk} {nm : ByteArray} {L : List Sg} (h : FirmAll S nm L) (hf : S'.fs = S.fs) : FirmAll S' nm L := fun y hy f => by rw [hf]; exact h y hy f
/-- What a crash leaves. -/
theorem Sound.crash {S : Dk} {nm : ByteArray} {L : List Sg} {t : Nat} (h : Sound S nm L) (hh : Held S nm L t) (ps : List Int) :
    ∃ L' t', Sound (crashS S ps) nm L' ∧ L'.map Sg.n = L.map Sg.n ∧ t ≤ t' ∧ t' ≤ (L.flatMap Sg.cs).length ∧ L'.flatMap Sg.cs = (L.flatMap Sg.cs).take t' ∧ (∀ x ∈ L', Torn x.tl) ∧ FirmAll (crashS S ps) nm L' := by
  have hget := fun k => crash_get S.fs ps k
  have hall : ∀ L1 : List Sg, (∀ y ∈ L1, (bts S (fileB nm y.n).data.toList).isSome = true) → FirmAll (crashS S ps) nm L1 := fun L1 h1 y hy f hf => by
    have h2 := h1 y hy
    unfold bts at h2
    rw [Option.isSome_map] at h2
    obtain ⟨f0, e0⟩ := Option.isSome_iff_exists.1 h2
    obtain ⟨g, hg, m, q1, q2, q3⟩ := (hget _).2 f0 e0
    have : f = g := Option.some.inj (hf.symm.trans hg)
    rw [this, q3]
    simp only [List.length_take]
    omega
  have hsome : ∀ k, (bts (crashS S ps) k).isSome = true → (bts S k).isSome = true := fun k hk => by
    cases hg : get S.fs k with
    | none =>
      have : bts (crashS S ps) k = none := by show (get (crashD S.fs ps).1 k).map _ = _; rw [(hget k).1 hg]; rfl
      rw [this] at hk; cases hk
    | some f => unfold bts; rw [hg]; rfl
  by_cases hL : L = []
  · subst hL
    refine ⟨[], 0, ⟨by simp, by simp, by simp, by simp, by simp, fun k hk hs => ?_⟩, rfl, by rw [hh.none rfl]; exact Nat.le_refl _, Nat.zero_le _, rfl, by simp, fun y hy => by cases hy⟩
    obtain ⟨x, hx, _⟩ := h.only k hk (hsome k hs)
    cases hx
  · obtain ⟨L0, x, e⟩ : ∃ L0 x, L = L0 ++ [x] := ⟨L.dropLast, L.getLast hL, (List.dropLast_concat_getLast hL).symm⟩
    obtain ⟨j, j1, j2, j3⟩ := hh.new L0 x e
    have hold := hh.old L0 x e
    have hx : x ∈ L := by rw [e]; simp
    have hb := h.file x hx
    obtain ⟨f, hf⟩ : ∃ f, get S.fs (fileB nm x.n).data.toList = some f := by
      unfold bts at hb
      cases hg : get S.fs (fileB nm x.n).data.toList with
      | none => rw [hg] at hb; cases hb
      | some f => exact ⟨f, rfl⟩
    have hbf := get_of_bts hb hf
    obtain ⟨g, hg, m, m1, m2, m3⟩ := (hget _).2 f hf
    obtain ⟨i, tl', i1, i2, i3, i4⟩ := cut_some x.cs x.tl (h.oks x hx) (hh.torn x hx) m
    have hji : j ≤ i := i4 j j1 (by
      have := j3 f hf
      rcases m2 with m2 | m2
      · omega
      · rw [m2, hbf, List.length_append]
        have := flat_whole x.cs j
        omega)
    have hfile : bts (crashS S ps) (fileB nm x.n).data.toList = some ((x.cs.take i).flatMap chB ++ tl') := by
      show (get (crashD S.fs ps).1 _).map _ = _
      rw [hg, m3, ← i3, ← hbf]
      rfl
    have hfold : ∀ y ∈ L0, bts (crashS S ps) (fileB nm y.n).data.toList = bts S (fileB nm y.n).data.toList := fun y hy => by
      have hyL : y ∈ L := by rw [e]; simp [hy]
      have hby := h.file y hyL
      cases hg2 : get S.fs (fileB nm y.n).data.toList with
      | none => unfold bts at hby; rw [hg2] at hby; cases hby
      | some fy =>
        obtain ⟨g2, hg3, m', q1, q2, q3⟩ := (hget _).2 fy hg2
        have := hold y hy fy hg2
        have hm : m' = fy.bytes.length := by omega
        show (get (crashD S.fs ps).1 _).map _ = (get S.fs _).map _
        rw [hg3, hg2, q3, hm]
        simp
    have hmem : ∀ y ∈ (L0 ++ [⟨x.n, x.cs.take i, tl'⟩] : List Sg), (y ∈ L0) ∨ y = ⟨x.n, x.cs.take i, tl'⟩ := fun y hy => by simpa using hy
    have hn : (L0 ++ [⟨x.n, x.cs.take i, tl'⟩] : List Sg).map Sg.n = L.map Sg.n := by rw [e]; simp
    have htorn : ∀ y ∈ (L0 ++ [⟨x.n, x.cs.take i, tl'⟩] : List Sg), Torn y.tl := fun y hy => by
      rcases hmem y hy with hy | rfl
      · exact hh.torn y (by rw [e]; simp [hy])
      · exact i2
    refine ⟨L0 ++ [⟨x.n, x.cs.take i, tl'⟩], (L0.flatMap Sg.cs).length + i, ⟨by rw [hn]; exact h.rise, fun y hy => ?_, fun y hy => ?_, fun y hy => ?_, fun y hy hne => (htorn y hy).short hne, fun k hk hs => ?_⟩, hn, by omega, ?_, ?_, htorn, hall _ (fun y hy => ?_)⟩
    · rcases hmem y hy with hy | rfl
      · exact h.num y (by rw [e]; simp [hy])
      · exact h.num x hx
    · rcases hmem y hy with hy | rfl
      · rw [hfold y hy]; exact h.file y (by rw [e]; simp [hy])
      · exact hfile
    · rcases hmem y hy with hy | rfl
      · exact h.oks y (by rw [e]; simp [hy])
      · exact fun c hc => h.oks x hx c (List.mem_of_mem_take hc)
    · obtain ⟨y, hy, e2⟩ := h.only k hk (hsome k hs)
      rw [e] at hy
      rcases List.mem_append.1 hy with hy | hy
      · exact ⟨y, by simp [hy], e2⟩
      · simp at hy; subst hy
        exact ⟨⟨y.n, y.cs.take i, tl'⟩, by simp, e2⟩
    · rw [e]; simp; omega
    · rw [e, List.flatMap_append, List.flatMap_append, List.take_append, List.take_of_length_le (Nat.le_add_right _ _), Nat.add_sub_cancel_left]
      simp
    · rcases hmem y hy with hy | rfl
      · rw [h.file y (by rw [e]; simp [hy])]; rfl
      · rw [h.file x hx]; rfl
end Go.Proofs.YtfmmholkeadejaaGreatDoor
