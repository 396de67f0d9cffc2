/- CaskKeeps: how the disk, the cask and the law's own list stand to one another: without memory. -/
import Derived.Test.YtfmmholkeadejaaGreatDoorZCkPow
import Derived.Test.YtfmmholkeadejaaGreatDoorZC6
namespace Go.Proofs.YtfmmholkeadejaaGreatDoor

theorem put_firm {k : List UInt8} {f : Fl} {l : Fs} (hf : f.firm = 0) (h : ∀ p ∈ l, p.2.firm = 0) : ∀ p ∈ put k f l, p.2.firm = 0 := fun p hp => by
  rcases keys_put k f l p hp with rfl | hp
  · exact hf
  · exact h p hp
theorem takeF_firm {kv : Fs} (h : ∀ p ∈ kv, p.2.firm = 0) (c : Ch) : ∀ p ∈ takeF c kv, p.2.firm = 0 := by
  unfold takeF
  split
  · exact fun p hp => h p ((del_sub _ _).mem hp)
  · exact put_firm rfl h
theorem foldF_firm : ∀ (chs : List Ch) (kv : Fs), (∀ p ∈ kv, p.2.firm = 0) → ∀ p ∈ chs.foldl (fun kv c => takeF c kv) kv, p.2.firm = 0
  | [], _, h => h
  | c :: l, _, h => foldF_firm l _ (takeF_firm h c)
theorem kvOf_firm (chs : List Ch) : ∀ p ∈ kvOf chs, p.2.firm = 0 := foldF_firm chs [] (by simp)
theorem kvL_inj : ∀ {a b : Fs}, (∀ p ∈ a, p.2.firm = 0) → (∀ p ∈ b, p.2.firm = 0) → kvL a = kvL b → a = b
  | [], [], _, _, _ => rfl
  | [], q :: b, _, _, h => by simp [kvL] at h
  | p :: a, [], _, _, h => by simp [kvL] at h
  | (k, ⟨x, n⟩) :: a, (k', ⟨y, m⟩) :: b, h1, h2, h => by
    simp only [kvL, List.map_cons, List.cons.injEq, Prod.mk.injEq] at h
    have e1 := h1 (k, ⟨x, n⟩) (by simp)
    have e2 := h2 (k', ⟨y, m⟩) (by simp)
    simp only at e1 e2
    obtain ⟨⟨r1, r2⟩, r3⟩ := h
    rw [kvL_inj (fun p hp => h1 p (by simp [hp])) (fun p hp => h2 p (by simp [hp])) (show kvL a = kvL b from r3), r1, r2, e1, e2]
theorem kvOf_append (a b : List Ch) : kvOf (a ++ b) = b.foldl (fun kv c => takeF c kv) (kvOf a) := by simp [kvOf]
theorem kvOf_swap {a b : List Ch} (h : kvOf a = kvOf b) (c : List Ch) : kvOf (a ++ c) = kvOf (b ++ c) := by rw [kvOf_append, kvOf_append, h]
/-- How they stand: the disk has the changes base and more', the law's list is base' and more; base' says the same as base, and more' is a beginning of more: all of it while the cask is whole. -/
structure KpX (S : Dk) (K : Ck) (ps : List Ch) (firm i : Nat) (L : List Sg) (base base' more more' : List Ch) (m : Nat) : Prop where
  sound : Sound S v1B L
  held : Held S v1B L (base.length + m)
  disk : L.flatMap Sg.cs = base ++ more'
  law : ps = base' ++ more
  same : kvOf base = kvOf base'
  firm : firm = base'.length + m
  le : m ≤ more'.length
  pre : more' <+: more
  long : L.length ≤ i
  nums : ∀ x ∈ L, x.n ≤ i
  many : (L.flatMap Sg.cs).length ≤ i
  whole : K.broken = false → S.on = true ∧ Good S K L ∧ more' = more ∧ (K.loose = false → FirmAll S v1B L)
structure Kp (S : Dk) (K : Ck) (ps : List Ch) (firm i : Nat) : Prop where
  ex : ∃ L base base' more more' m, KpX S K ps firm i L base base' more more' m
  name : K.nm = v1B
  new : newN K ≤ i
  len : ps.length ≤ i
  fs : S.fs.length ≤ i
theorem Kp.mono {S : Dk} {K : Ck} {ps : List Ch} {firm i j : Nat} (h : Kp S K ps firm i) (hj : i ≤ j) : Kp S K ps firm j := by
  obtain ⟨L, b, b', mo, mo', m, x⟩ := h.ex
  exact ⟨⟨L, b, b', mo, mo', m, x.sound, x.held, x.disk, x.law, x.same, x.firm, x.le, x.pre, Nat.le_trans x.long hj, fun y hy => Nat.le_trans (x.nums y hy) hj, Nat.le_trans x.many hj, x.whole⟩, h.name, Nat.le_trans h.new hj, Nat.le_trans h.len hj, Nat.le_trans h.fs hj⟩
theorem Good.fs {S S' : Dk} {K : Ck} {L : List Sg} (h : Good S K L) (hf : S'.fs = S.fs) : Good S' K L := ⟨h.sound.fs hf, h.segs, h.kv, h.recs, h.whole, h.lim, h.ok⟩
/-- Arm changes nothing of it. -/
theorem Kp.of {S S' : Dk} {K : Ck} {ps : List Ch} {firm i : Nat} (h : Kp S K ps firm i) (hf : S'.fs = S.fs) (ho : S'.on = S.on) : Kp S' K ps firm i := by
  obtain ⟨L, b, b', mo, mo', m, x⟩ := h.ex
  exact ⟨⟨L, b, b', mo, mo', m, x.sound.fs hf, x.held.of hf, x.disk, x.law, x.same, x.firm, x.le, x.pre, x.long, x.nums, x.many, fun e => ⟨ho.trans (x.whole e).1, (x.whole e).2.1.fs hf, (x.whole e).2.2.1, fun q => ((x.whole e).2.2.2 q).fs hf⟩⟩, h.name, h.new, h.len, by rw [hf]; exact h.fs⟩
theorem Kp.firm_le {S : Dk} {K : Ck} {ps : List Ch} {firm i : Nat} (h : Kp S K ps firm i) : firm ≤ ps.length := by
  obtain ⟨L, b, b', mo, mo', m, x⟩ := h.ex
  rw [x.firm, x.law, List.length_append]
  have := x.le
  have := x.pre.length_le
  omega
theorem laid_same (K : Ck) (ch : Ch) : (laidK K ch).nm = K.nm ∧ newN (laidK K ch) = newN K ∧ (laidK K ch).broken = K.broken ∧ (laidK K ch).loose = true := ⟨rfl, rfl, rfl, rfl⟩
theorem Kp.write {S : Dk} {K : Ck} {ps : List Ch} {firm i : Nat} (h : Kp S K ps firm i) (hb : K.broken = false) (hr : Rising S.fs) (hf : K.Fine) (hi : i < 999999) (ch : Ch) (hok : ch.Ok) :
    (stE S K (chR ch) = 0 ∧ Kp (stS S K (chR ch)) (laidK (stK S K (chR ch)) ch) (ps ++ [ch]) firm (i + 1)) ∨ (stE S K (chR ch) = 23 ∧ Kp (stS S K (chR ch)) (stK S K (chR ch)) (ps ++ [ch]) firm (i + 1)) ∨ (stE S K (chR ch) = 22 ∧ Kp (stS S K (chR ch)) (stK S K (chR ch)) ps firm (i + 1)) := by
  obtain ⟨L, b, b', mo, mo', m, x⟩ := h.ex
  obtain ⟨hon, hg, e, hq⟩ := x.whole hb
  subst e
  have hnm := h.name
  have hnew := h.new
  have hlen := h.len
  have hfs := h.fs
  have hle := x.le
  have hlong := x.long
  have hmany := x.many
  obtain ⟨t1, t2⟩ := st_same S K (chR ch)
  have hsz := (st_sized hr K (chR ch)).len
  have w := hg.write2 (ch := ch) (t := b.length + m) hon hf hok (by omega) (by rw [hnm]; exact x.held) (by rw [x.disk, List.length_append]; omega) (by rw [hnm]; exact hq)
  rw [Wrote2, hnm] at w
  rcases w with ⟨e, o, L', g, q1, q2, q3⟩ | ⟨e, o, g, q1, q2⟩ | ⟨e, o, br, L', q0, q1, q2, q3, q4⟩
  · refine .inl ⟨e, ⟨L', b, b', mo' ++ [ch], mo' ++ [ch], m, ?_, q3, by rw [q1, x.disk]; simp, by rw [x.law]; simp, x.same, x.firm, by simp; omega, List.prefix_refl _, by omega, fun y hy => ?_, by rw [q1, List.length_append]; simp only [List.length_cons, List.length_nil]; omega, fun _ => ⟨o, g, rfl, fun q => by cases q⟩⟩, t1.trans hnm, ?_, by simp; omega, by omega⟩
    · have := g.sound
      rw [(laid_same _ ch).1, t1, hnm] at this
      exact this
    · have := g.nums y hy
      rw [(laid_same _ ch).2.1] at this
      omega
    · rw [(laid_same _ ch).2.1]; omega
  · refine .inr (.inr ⟨e, ⟨L, b, b', mo', mo', m, ?_, q1, x.disk, x.law, x.same, x.firm, x.le, List.prefix_refl _, by omega, fun y hy => by have := x.nums y hy; omega, by omega, fun _ => ⟨o, g, rfl, q2⟩⟩, t1.trans hnm, by omega, by omega, by omega⟩)
    have := g.sound
    rw [t1, hnm] at this
    exact this
  · refine .inr (.inl ⟨e, ?_, t1.trans hnm, by omega, by simp; omega, by omega⟩)
    have hx : ∀ y ∈ L', y.n ≤ i + 1 := fun y hy => by have := q3 y hy; omega
    rcases q4 with q4 | q4
    · exact ⟨L', b, b', mo' ++ [ch], mo', m, q0, q1, by rw [q4, x.disk], by rw [x.law]; simp, x.same, x.firm, x.le, List.prefix_append _ _, by omega, hx, by rw [q4]; omega, fun q => by rw [br] at q; cases q⟩
    · exact ⟨L', b, b', mo' ++ [ch], mo' ++ [ch], m, q0, q1, by rw [q4, x.disk]; simp, by rw [x.law]; simp, x.same, x.firm, by simp; omega, List.prefix_refl _, by omega, hx, by rw [q4, List.length_append]; simp only [List.length_cons, List.length_nil]; omega, fun q => by rw [br] at q; cases q⟩
theorem Kp.sync {S : Dk} {K : Ck} {ps : List Ch} {firm i : Nat} (h : Kp S K ps firm i) (hb : K.broken = false) (hr : Rising S.fs) (hf : K.Fine) :
    (csE S K = 0 ∧ Kp (csS S K) (csK S K) ps ps.length i) ∨ (csE S K = 23 ∧ Kp (csS S K) (csK S K) ps firm i) := by
  obtain ⟨L, b, b', mo, mo', m, x⟩ := h.ex
  obtain ⟨hon, hg, e, hq⟩ := x.whole hb
  subst e
  have hnm := h.name
  obtain ⟨k1, k2, k3, k4, k5⟩ := csK_same S K
  have hfs : (csS S K).fs.length ≤ i := by rw [(cs_sized hr K).2.2.1]; exact h.fs
  have hnew : newN (csK S K) ≤ i := by rw [newN_cs]; exact h.new
  have w := hg.sync2 hon hf (by rw [hnm]; exact x.held) (by rw [hnm]; exact hq)
  rw [hnm] at w
  rcases w with ⟨e, o, g, q1, q2, q3⟩ | ⟨e, o, br, q1⟩
  · have hsd := g.sound
    rw [k1, hnm] at hsd
    have hd := q1.held hsd x.held.torn
    rw [x.disk, List.length_append] at hd
    exact .inl ⟨e, ⟨L, b, b', mo', mo', mo'.length, hsd, hd, x.disk, x.law, x.same, by rw [x.law, List.length_append], Nat.le_refl _, List.prefix_refl _, x.long, x.nums, x.many, fun _ => ⟨o, g, rfl, fun _ => q1⟩⟩, k1.trans hnm, hnew, h.len, hfs⟩
  · exact .inr ⟨e, ⟨L, b, b', mo', mo', m, x.sound.fs q1, x.held.of q1, x.disk, x.law, x.same, x.firm, x.le, List.prefix_refl _, x.long, x.nums, x.many, fun q => by rw [br] at q; cases q⟩, k1.trans hnm, hnew, h.len, hfs⟩
/-- Behind a crash: what is there says what the law's list says up to some place. -/
structure CrX (S : Dk) (ps : List Ch) (firm i : Nat) (L : List Sg) (a : Nat) : Prop where
  sound : Sound S v1B L
  all : FirmAll S v1B L
  torn : ∀ x ∈ L, Torn x.tl
  ge : firm ≤ a
  le : a ≤ ps.length
  same : kvOf (L.flatMap Sg.cs) = kvOf (ps.take a)
  long : L.length ≤ i
  nums : ∀ x ∈ L, x.n ≤ i
  many : (L.flatMap Sg.cs).length ≤ i
  len : ps.length ≤ i
  fs : S.fs.length ≤ i
theorem crash_len (S : Dk) (ps : List Int) : (crashS S ps).fs.length = S.fs.length := by
  have := congrArg List.length (crashD_keys S.fs ps)
  rw [List.length_map, List.length_map] at this
  exact this
theorem take_two {α : Type} (a b : List α) (q : Nat) : (a ++ b).take (a.length + q) = a ++ b.take q := by
  rw [List.take_append, List.take_of_length_le (Nat.le_add_right _ _), Nat.add_sub_cancel_left]
theorem Kp.crash {S : Dk} {K : Ck} {ps : List Ch} {firm i : Nat} (h : Kp S K ps firm i) (pk : List Int) : ∃ L a, CrX (crashS S pk) ps firm i L a := by
  obtain ⟨L, b, b', mo, mo', m, x⟩ := h.ex
  obtain ⟨L', t', c1, c2, c3, c4, c5, c6, c7⟩ := x.sound.crash x.held pk
  obtain ⟨ex, hex⟩ := x.pre
  have hle := x.le
  have hd := congrArg List.length x.disk
  rw [List.length_append] at hd
  obtain ⟨q, rfl⟩ : ∃ q, t' = b.length + q := ⟨t' - b.length, by omega⟩
  have hch : L'.flatMap Sg.cs = b ++ mo'.take q := by
    rw [c5, x.disk, take_two]
  have hmo : mo'.take q = mo.take q := by
    rw [← hex, List.take_append_of_le_length (by omega)]
  have hlen := congrArg List.length c2
  rw [List.length_map, List.length_map] at hlen
  have hmo2 : q ≤ mo.length := by rw [← hex, List.length_append]; omega
  refine ⟨L', b'.length + q, c1, c7, c6, by rw [x.firm]; omega, by rw [x.law, List.length_append]; omega, ?_, by rw [hlen]; exact x.long, fun y hy => ?_, ?_, h.len, by rw [crash_len]; exact h.fs⟩
  · rw [hch, hmo, x.law, take_two]
    exact kvOf_swap x.same _
  · have : y.n ∈ L.map Sg.n := by rw [← c2]; exact List.mem_map.2 ⟨y, hy, rfl⟩
    obtain ⟨z, hz, e⟩ := List.mem_map.1 this
    rw [← e]; exact x.nums z hz
  · rw [c5, List.length_take]; have := x.many; omega
theorem CrX.again {S : Dk} {ps : List Ch} {firm i : Nat} {L : List Sg} {a : Nat} (h : CrX S ps firm i L a) (pk : List Int) : ∃ L', CrX (crashS S pk) ps firm i L' a := by
  obtain ⟨L', t', c1, c2, c3, c4, c5, c6, c7⟩ := h.sound.crash (h.all.held h.sound h.torn) pk
  have hlen := congrArg List.length c2
  rw [List.length_map, List.length_map] at hlen
  have hch : L'.flatMap Sg.cs = L.flatMap Sg.cs := by rw [c5, List.take_of_length_le (by omega)]
  refine ⟨L', c1, c7, c6, h.ge, h.le, by rw [hch]; exact h.same, by rw [hlen]; exact h.long, fun y hy => ?_, by rw [hch]; exact h.many, h.len, by rw [crash_len]; exact h.fs⟩
  have : y.n ∈ L.map Sg.n := by rw [← c2]; exact List.mem_map.2 ⟨y, hy, rfl⟩
  obtain ⟨z, hz, e⟩ := List.mem_map.1 this
  rw [← e]; exact h.nums z hz
theorem CrX.of {S S' : Dk} {ps : List Ch} {firm i : Nat} {L : List Sg} {a : Nat} (h : CrX S ps firm i L a) (hf : S'.fs = S.fs) : CrX S' ps firm i L a :=
  ⟨h.sound.fs hf, h.all.fs hf, h.torn, h.ge, h.le, h.same, h.long, h.nums, h.many, h.len, by rw [hf]; exact h.fs⟩
/-- A cask that was opened behind it. -/
structure Od (S : Dk) (K : Ck) (ps : List Ch) (firm i : Nat) (kv : Fs) : Prop where
  eq : K.kv = kv
  ex : ∃ a, firm ≤ a ∧ a ≤ ps.length ∧ kvL kv = kvL (kvOf (ps.take a))
  get : ∀ a, a ≤ ps.length → kvL kv = kvL (kvOf (ps.take a)) → Kp S K (ps.take a) a i
  len : ps.length ≤ i
  small : kv.length ≤ i
theorem Od.of {S S' : Dk} {K : Ck} {ps : List Ch} {firm i : Nat} {kv : Fs} (h : Od S K ps firm i kv) (hf : S'.fs = S.fs) (ho : S'.on = S.on) : Od S' K ps firm i kv :=
  ⟨h.eq, h.ex, fun a ha e => (h.get a ha e).of hf ho, h.len, h.small⟩
theorem CrX.opens {S S' : Dk} {ps : List Ch} {firm i : Nat} {L : List Sg} {a : Nat} (h : CrX S ps firm i L a) (ho : S'.on = true) (hg : Good S' (ldK v1B L) L) (ha : FirmAll S' v1B L) (hfs : S'.fs.length = S.fs.length) : Od S' (ldK v1B L) ps firm i (kvOf (L.flatMap Sg.cs)) := by
  refine ⟨hg.kv, ⟨a, h.ge, h.le, by rw [h.same]⟩, fun c hc e => ?_, h.len, Nat.le_trans (ldC_len v1B (L.flatMap Sg.cs) []) h.many⟩
  have e2 := kvL_inj (kvOf_firm _) (kvOf_firm _) e
  have hd := ha.held hg.sound h.torn
  refine ⟨⟨L, L.flatMap Sg.cs, ps.take c, [], [], 0, hg.sound, by simpa using hd, by simp, by simp, e2, by simp; omega, Nat.le_refl _, List.prefix_refl _, h.long, h.nums, h.many, fun _ => ⟨ho, hg, rfl, fun _ => ha⟩⟩, rfl, ?_, by rw [List.length_take]; have := h.len; omega, by rw [hfs]; exact h.fs⟩
  rw [newN_last hg.segs]
  split
  · rename_i x hx
    exact h.nums x (List.mem_of_getLast? hx)
  · omega
/-- Open while the power stays. -/
theorem CrX.calm {S : Dk} {ps : List Ch} {firm i : Nat} {L : List Sg} {a : Nat} (h : CrX S ps firm i L a) (hc : Calm S) (hr : Rising S.fs) : ldE S v1B L = 0 ∧ Od (ldS S v1B L) (ldK v1B L) ps firm i (kvOf (L.flatMap Sg.cs)) := by
  obtain ⟨q1, q2, q3, q4⟩ := h.sound.opened hc aCap
  refine ⟨q1, h.opens q2.on q3 ?_ (ld_sized hr v1B L).2.2.1⟩
  unfold ldS
  cases hl : L.getLast? with
  | none => exact h.all
  | some x =>
    have hx : x ∈ L := List.mem_of_getLast? hl
    obtain ⟨f, hf⟩ := bts_get (h.sound.file x hx)
    have hE : eachE S (fileB v1B x.n) = 0 := by unfold ldE at q1; rw [hl] at q1; exact q1
    rcases set_two hc.on (fileB v1B x.n) (fileB_ok aCap _) f hf with ⟨s1, s2, s3⟩ | ⟨s1, s2, s3⟩
    · intro y hy g hg
      simp only at hg
      rw [s3] at hg
      split at hg
      · cases hg; exact Nat.le_refl _
      · exact h.all y hy g hg
    · rw [hE] at s1; cases s1
/-- Open where there is nothing to settle. -/
theorem CrX.empty {S : Dk} {ps : List Ch} {firm i a : Nat} (h : CrX S ps firm i [] a) (ho : S.on = true) : ldE S v1B [] = 0 ∧ Od (ldS S v1B []) (ldK v1B []) ps firm i (kvOf (([] : List Sg).flatMap Sg.cs)) :=
  ⟨rfl, h.opens ho ⟨h.sound, rfl, rfl, rfl, fun e => absurd e (by show ¬ (0 : Int) < 0; decide), by show (0 : Int) ≤ 4096; decide, rfl⟩ h.all rfl⟩
/-- Open whose first step has no power. -/
theorem CrX.dark {S : Dk} {ps : List Ch} {firm i a : Nat} {L : List Sg} (h : CrX S ps firm i L a) (hne : L ≠ []) (ho : S.on = true) (har : S.armed = true) (hah : S.ahead = 0) : ldE S v1B L = 23 ∧ (ldS S v1B L).fs = S.fs := by
  unfold ldE ldS
  cases hl : L.getLast? with
  | none => exact absurd (List.getLast?_eq_none_iff.1 hl) hne
  | some x =>
    have hx : x ∈ L := List.mem_of_getLast? hl
    obtain ⟨f, hf⟩ := bts_get (h.sound.file x hx)
    have hst : stepE S = 23 := by unfold stepE; rw [if_pos har, hah]; rfl
    have hfd : foundE S (fileB v1B x.n) = 0 := by unfold foundE; rw [if_pos ho, if_pos (fileB_ok aCap _), hf]; rfl
    rcases set_two ho (fileB v1B x.n) (fileB_ok aCap _) f hf with ⟨s1, s2, s3⟩ | ⟨s1, s2, s3⟩
    · rw [eachE, if_pos hfd, hst] at s1; cases s1
    · exact ⟨s1, s3⟩
end Go.Proofs.YtfmmholkeadejaaGreatDoor
