/- SqOne, SqAwA, SqAwake. -/
import Derived.Test.YtfmmholkeadejaaGreatDoorZS2
import Derived.Test.YtfmmholkeadejaaGreatDoorZCkKeepsM
import Derived.Test.YtfmmholkeadejaaGreatDoorZSqNext
/- Squash (39) of a cask that has one segment, while the power stays. -/
namespace Go.Proofs.YtfmmholkeadejaaGreatDoor
open Go.RowKit

theorem cur_reopen2 {w0 W : World} {N : Lo} {c d mb : Nat} {S : Dk} {K : Ck} (h : Cur w0 W N c d mb S K) (hon : S.on = true) (hb : K.broken = false) (L : List Sg) (hL : Sound S K.nm L) (hE : ldE S K.nm L = 0) (hln : L.length ≤ 256) (hm : (L.flatMap Sg.cs).length ≤ 16777215) :
    Calls Tryz.prog 21 #[.pointer (some ⟨c, 0, none⟩)] W fun e w' => e = .returned (.int .i64 0) ∧ ∃ mb2, Cur w0 w' (N.with mb2) c d mb2 (ldS S K.nm L) (ldK K.nm L) := by
  obtain ⟨sv, o⟩ := h.op
  refine (reopen_ok N c d mb sv S K hon L (hL.list h.dfine.rise) hln hL.seg hm W o h.sz h.tab hb hE).mono ?_
  rintro e w' ⟨e1, mb2, sv2, e2, e3, e4⟩
  have hB : Below N W w' := e4.below h.sz (fun i hi => by rw [hi]; exact o.le)
  exact ⟨e1, mb2, ⟨sv2, e2⟩, h.lo, h.tab.on hB, h.bel.trans (by have := h.lo; rw [← this]; exact hB)⟩
/-- The cask, and its segment's number in a list. -/
def Sq1 (w0 : World) (N : Lo) (c d mb : Nat) (S : Dk) (K : Ck) (n sb : Nat) (W : World) : Prop := Cur w0 W N c d mb S K ∧ W.cell? ⟨sb, 0, none⟩ = some (.int .i64 (n : Int)) ∧ sb < W.heap.size
theorem Sq1.below {w0 W W' : World} {N : Lo} {c d mb : Nat} {S : Dk} {K : Ck} {n sb : Nat} (h : Sq1 w0 N c d mb S K n sb W) (hb : Below W.heap.size W W') : Sq1 w0 N c d mb S K n sb W' :=
  ⟨h.1.below hb, (hb.cell (p := ⟨sb, 0, none⟩) h.2.2).trans h.2.1, Nat.lt_of_lt_of_le h.2.2 hb.size⟩
/-- The boxes of the steps. -/
structure SBx (c g bc bo bn : Nat) (a : Option Addr) (q : Nat) (F : ByteArray) (W : World) : Prop where
  fs : Holds W g [.func (.func 20) #[.pointer (some ⟨c, 0, none⟩)] #[], .func (.func 129) #[] #[.pointer (some ⟨bc, 0, none⟩), .pointer (some ⟨bo, 0, none⟩), .pointer (some ⟨bn, 0, none⟩)], .func (.func 132) #[] #[.pointer (some ⟨bc, 0, none⟩), .pointer (some ⟨bo, 0, none⟩)], .func (.func 21) #[.pointer (some ⟨c, 0, none⟩)] #[]] 37
  bc : Holds W bc [.pointer (some ⟨c, 0, none⟩)] 22
  bo : Holds W bo [.slice a 0 q] 108
  bn : Holds W bn [.string F] 9
theorem SBx.oth {c g bc bo bn : Nat} {a : Option Addr} {q : Nat} {F : ByteArray} {W W' : World} (h : SBx c g bc bo bn a q F W) (ho : Oth W W') : SBx c g bc bo bn a q F W' :=
  ⟨h.fs.oth ho (by decide) (by decide) (by decide) (by decide) (by decide), h.bc.oth ho (by decide) (by decide) (by decide) (by decide) (by decide), h.bo.oth ho (by decide) (by decide) (by decide) (by decide) (by decide), h.bn.oth ho (by decide) (by decide) (by decide) (by decide) (by decide)⟩
/-- What is asked of a squash that goes through. -/
structure SqGo (S : Dk) (K : Ck) (n : Nat) (L : List Sg) : Prop where
  ok : K.broken = false
  segs : K.segs = [n]
  num : 1 ≤ n ∧ n ≤ 999999
  dead : K.recs - (K.kv.length : Int) ≠ 0
  size : (fileB K.nm n).size ≤ 32
  com : nameOk (comB (fileB K.nm n)) = true
  keys : ∀ p ∈ kvL K.kv, cfE (strL p.1) (strL p.2) = 0
  small : K.kv.length < 16777216
  sync : csE S K = 0
  files : (csS S K).fs.length < 256
  ren : rnE (csS S K) (fileB K.nm n) (recsP (kvL K.kv)) = 0
  on : (rnS (csS S K) (fileB K.nm n) (recsP (kvL K.kv))).on = true
  sound : Sound (rnS (csS S K) (fileB K.nm n) (recsP (kvL K.kv))) K.nm L
  load : ldE (rnS (csS S K) (fileB K.nm n) (recsP (kvL K.kv))) K.nm L = 0
  long : L.length ≤ 256
  many : (L.flatMap Sg.cs).length ≤ 16777215
  same : (csK S K).nm = K.nm ∧ (csK S K).kv = K.kv ∧ (csK S K).broken = false
set_option maxHeartbeats 1600000 in
theorem order_steps {w0 W : World} {N : Lo} {c d mb : Nat} {S : Dk} {K : Ck} {n : Nat} {L : List Sg} (hg : SqGo S K n L) (h : Cur w0 W N c d mb S K) (g bc bo bn : Nat) (a : Option Addr) (q q4 : Nat) (hx : SBx c g bc bo bn a q (fileB K.nm n) W) :
    Calls Tryz.prog 85 #[.slice (some ⟨g, 0, none⟩) 4 q4] W fun e w' => e = .returned (.int .i64 0) ∧ ∃ mb2, Cur w0 w' (N.with mb2) c d mb2 (ldS (rnS (csS S K) (fileB K.nm n) (recsP (kvL K.kv))) K.nm L) (ldK K.nm L) := by
  obtain ⟨s1, s2, s3⟩ := hg.same
  have := inOrder_steps (fun W => Cur w0 W N c d mb S K ∧ SBx c g bc bo bn a q (fileB K.nm n) W) (fun W => Cur w0 W N c d mb (csS S K) (csK S K) ∧ SBx c g bc bo bn a q (fileB K.nm n) W) (fun W => Cur w0 W N c d mb (rnS (csS S K) (fileB K.nm n) (recsP (kvL K.kv))) (csK S K) ∧ SBx c g bc bo bn a q (fileB K.nm n) W) (fun W => Cur w0 W N c d mb (rnS (csS S K) (fileB K.nm n) (recsP (kvL K.kv))) (csK S K) ∧ SBx c g bc bo bn a q (fileB K.nm n) W)
    (fun w' => ∃ mb2, Cur w0 w' (N.with mb2) c d mb2 (ldS (rnS (csS S K) (fileB K.nm n) (recsP (kvL K.kv))) K.nm L) (ldK K.nm L)) 0 0 0 0 g q4 c bc bo bn W
    (fun W hW => by
      rcases hW with hW | hW | hW | hW
      all_goals exact ⟨hW.2.fs.at 0 _ rfl, hW.2.fs.at 1 _ rfl, hW.2.fs.at 2 _ rfl, hW.2.fs.at 3 _ rfl⟩)
    (fun W hW => (cur_sync hW.1 hg.ok).mono fun e w' ⟨e1, e2, e3⟩ => ⟨by rw [e1, hg.sync], e2, hW.2.oth e3⟩)
    (fun W hW => by
      obtain ⟨sv, o⟩ := hW.1.op
      have hsh := step_shed N c d mb bc bo bn sv (csS S K) (csK S K) (fileB K.nm n) hg.size hg.com (by rw [s2]; exact hg.keys) (by rw [s2]; exact hg.small) hg.files a q W o hW.2.bc hW.2.bo hW.2.bn
      rw [s2, hg.ren] at hsh
      exact hsh.mono fun e w' ⟨e1, e2, e3⟩ => ⟨e1, hW.1.disked e3 e2.disk, hW.2.oth (Oth.ofD e3)⟩)
    (fun W hW => by
      obtain ⟨sv, o⟩ := hW.1.op
      exact (step_rem c d mb bc bo sv (csK S K) a q W o.holds hW.2.bc hW.2.bo).mono fun e w' ⟨e1, e2⟩ => ⟨e1, hW.1.below e2, hW.2.oth (Oth.ofBelow e2)⟩)
    (fun W hW => by
      have := cur_reopen2 hW.1 hg.on s3 L (by rw [s1]; exact hg.sound) (by rw [s1]; exact hg.load) hg.long hg.many
      rw [s1] at this
      exact this)
    ⟨h, hx⟩
  refine this.mono fun e w' ⟨e1, e2⟩ => ⟨e1, ?_⟩
  simpa [sq4I] using e2
set_option maxHeartbeats 3200000 in
set_option maxRecDepth 100000 in
theorem squash_one {w0 W : World} {N : Lo} {c d mb : Nat} {S : Dk} {K : Ck} {n : Nat} {L : List Sg} (hg : SqGo S K n L) (h : Cur w0 W N c d mb S K) (R : Int) (hR : K.recs - (ldK K.nm L).recs = R) :
    Calls Tryz.prog 39 #[.pointer (some ⟨c, 0, none⟩)] W fun e w' => e = .returned (.tuple #[.int .i64 R, .int .i64 0]) ∧ ∃ mb2, Cur w0 w' (N.with mb2) c d mb2 (ldS (rnS (csS S K) (fileB K.nm n) (recsP (kvL K.kv))) K.nm L) (ldK K.nm L) := by
  have h24 : Hid (Calls Tryz.prog 24 #[.pointer (some ⟨c, 0, none⟩)] W fun e w' => ∃ sb q, e = .returned (.slice (some ⟨sb, 0, none⟩) 1 q) ∧ Hid (Sq1 w0 N c d mb S K n sb w')) := by
    obtain ⟨sv, o⟩ := h.op
    refine (segments_some N c d mb sv S K W o).mono fun e w' ⟨v, e1, e2, e3⟩ => ?_
    rw [hg.segs] at e2
    rcases e2.2 with ⟨_, h0⟩ | ⟨sb, cap, cur, rfl, hb, hh, hl1, hl2, hl3, hl4⟩
    · cases h0
    · refine ⟨sb, cap, e1, h.below e3, ?_, (Array.getElem?_eq_some_iff.1 hh).1⟩
      have hH : Holds w' sb ([.int .i64 (n : Int)] ++ cur.toList.drop 1) 3 := by
        unfold Holds
        rw [show [Value.int .i64 (n : Int)] = cur.toList.take 1 from hl4.symm, List.take_append_drop, Array.toArray_toList]
        exact hh
      exact hH.at 0 _ rfl
  have h27 : Hid (∀ W' sb, Hid (Sq1 w0 N c d mb S K n sb W') → Calls Tryz.prog 27 #[.pointer (some ⟨c, 0, none⟩)] W' fun e w' => e = .returned (.pointer (some ⟨d, 0, none⟩)) ∧ Hid (Sq1 w0 N c d mb S K n sb w')) := fun W' sb h => by
    obtain ⟨sv, o⟩ := h.out.1.op
    exact (disk_some c d mb sv K W' o.holds).mono fun e w' ⟨e1, e2⟩ => ⟨e1, h.out.below e2⟩
  have h28 : Hid (∀ W' sb, Hid (Sq1 w0 N c d mb S K n sb W') → Calls Tryz.prog 28 #[.pointer (some ⟨c, 0, none⟩)] W' fun e w' => e = .returned (.bool false) ∧ w' = W') := fun W' sb h => by
    have := cur_broken h.out.1
    rw [hg.ok] at this
    exact this
  obtain ⟨D, hD⟩ : ∃ D, K.recs - (K.kv.length : Int) = D := ⟨_, rfl⟩
  have hD0 : (D == 0) = false := beq_eq_false_iff_ne.2 (by rw [← hD]; exact hg.dead)
  have h25 : Hid (∀ W' sb, Hid (Sq1 w0 N c d mb S K n sb W') → Calls Tryz.prog 25 #[.pointer (some ⟨c, 0, none⟩)] W' fun e w' => e = .returned (.int .i64 D) ∧ Hid (Sq1 w0 N c d mb S K n sb w')) := fun W' sb h => by
    obtain ⟨sv, o⟩ := h.out.1.op
    have := dead_some N c d mb sv S K W' o
    rw [hD] at this
    exact this.mono fun e w' ⟨e1, e2⟩ => ⟨e1, h.out.below e2⟩
  obtain ⟨R1, hR1⟩ : ∃ R1, K.recs = R1 := ⟨_, rfl⟩
  have h84 : Hid (∀ W' sb, Hid (Sq1 w0 N c d mb S K n sb W') → Calls Tryz.prog 84 #[.pointer (some ⟨c, 0, none⟩)] W' fun e w' => e = .returned (.int .i64 R1) ∧ Hid (Sq1 w0 N c d mb S K n sb w')) := fun W' sb h => by
    obtain ⟨sv, o⟩ := h.out.1.op
    exact (recs_any N c d mb sv S K R1 hR1.symm W' o).mono fun e w' ⟨e1, e2⟩ => ⟨e1, h.out.below e2⟩
  have h86 : Hid (∀ W' sb q, Hid (Sq1 w0 N c d mb S K n sb W') → Calls Tryz.prog 86 #[.pointer (some ⟨c, 0, none⟩), .slice (some ⟨sb, 0, none⟩) 1 q] W' fun e w' => ∃ g, e = .returned (.slice (some ⟨g, 0, none⟩) 4 4) ∧ Hid (Cur w0 w' N c d mb S K ∧ ∃ bc bo bn a q', SBx c g bc bo bn a q' (fileB K.nm n) w')) := fun W' sb q h => by
    obtain ⟨sv, o⟩ := h.out.1.op
    exact (steps_one N c d mb sv S K n hg.num.1 hg.num.2 sb 0 q W' o h.out.1.sz h.out.1.tab h.out.2.1 h.out.2.2).mono fun e w' ⟨g, bc, bo, bn, a, q', e1, e2, e3, e4, e5, e6⟩ => ⟨g, e1, h.out.1.below e6, bc, bo, bn, a, q', e2, e3, e4, e5⟩
  have h85 : Hid (∀ W' g, Hid (Cur w0 W' N c d mb S K ∧ ∃ bc bo bn a q', SBx c g bc bo bn a q' (fileB K.nm n) W') → Calls Tryz.prog 85 #[.slice (some ⟨g, 0, none⟩) 4 4] W' fun e w' => e = .returned (.int .i64 0) ∧ Hid (∃ mb2, Cur w0 w' (N.with mb2) c d mb2 (ldS (rnS (csS S K) (fileB K.nm n) (recsP (kvL K.kv))) K.nm L) (ldK K.nm L))) := fun W' g h => by
    obtain ⟨bc, bo, bn, a, q', hx⟩ := h.out.2
    exact order_steps hg h.out.1 g bc bo bn a q' 4 hx
  obtain ⟨R2, hR2⟩ : ∃ R2, (ldK K.nm L).recs = R2 := ⟨_, rfl⟩
  have h84b : Hid (∀ W', Hid (∃ mb2, Cur w0 W' (N.with mb2) c d mb2 (ldS (rnS (csS S K) (fileB K.nm n) (recsP (kvL K.kv))) K.nm L) (ldK K.nm L)) → Calls Tryz.prog 84 #[.pointer (some ⟨c, 0, none⟩)] W' fun e w' => e = .returned (.int .i64 R2) ∧ Hid (∃ mb2, Cur w0 w' (N.with mb2) c d mb2 (ldS (rnS (csS S K) (fileB K.nm n) (recsP (kvL K.kv))) K.nm L) (ldK K.nm L))) := fun W' h => by
    obtain ⟨mb2, h⟩ := h.out
    obtain ⟨sv, o⟩ := h.op
    exact (recs_any (N.with mb2) c d mb2 sv _ _ R2 hR2.symm W' o).mono fun e w' ⟨e1, e2⟩ => ⟨e1, mb2, h.below e2⟩
  have hw : IntKind.i64.wrap (R1 - R2) = R := by
    have f1 := h.fine.recs
    have f2 := hg.many
    have f3 : (ldK K.nm L).recs = ((L.flatMap Sg.cs).length : Int) := rfl
    rw [← hR, hR1, hR2]
    rw [f3] at hR2
    rw [hR1] at f1
    simp [IntKind.wrap, IntKind.bits, IntKind.signed]
    omega
  generalize ldS (rnS (csS S K) (fileB K.nm n) (recsP (kvL K.kv))) K.nm L = S3 at *
  generalize ldK K.nm L = K3 at *
  clear h hg hR hD hR1 hR2
  go_enter Tryz.func39, Tryz.ntmps39
  go_wp2_with (first
    | (go_at_call 84; refine (h84b.out _ t6).mono ?_; rintro e w7 ⟨rfl, t7⟩)
    | (go_at_call 85; refine (h85.out _ _ t5).mono ?_; rintro e w6 ⟨rfl, t6⟩)
    | (go_at_call 86; refine (h86.out _ _ _ t4).mono ?_; rintro e w5 ⟨g, rfl, t5⟩)
    | (go_at_call 84; refine (h84.out _ _ t3).mono ?_; rintro e w4 ⟨rfl, t4⟩)
    | (go_at_call 25; refine (h25.out _ _ t2).mono ?_; rintro e w3 ⟨rfl, t3⟩)
    | (go_at_call 28; refine (h28.out _ _ t2).mono ?_; rintro e wb ⟨rfl, eb⟩; rw [eb]; clear eb)
    | (go_at_call 27; refine (h27.out _ _ t1).mono ?_; rintro e w2 ⟨rfl, t2⟩)
    | (go_at_call 24; refine h24.out.mono ?_; rintro e w1 ⟨sb, q, rfl, t1⟩))
  go_ret2
  exact ⟨rfl, t7.out⟩
end Go.Proofs.YtfmmholkeadejaaGreatDoor

/- The states of law05's awake, reckoned. -/
namespace Go.Proofs.YtfmmholkeadejaaGreatDoor
open Go.RowKit

def nx (s : Dk × Ck) : Dk × Ck := (stS s.1 s.2 (chR aC1), laidK (stK s.1 s.2 (chR aC1)) aC1)
def stN : Nat → Dk × Ck
  | 0 => (aS0, aK0)
  | n + 1 => nx (stN n)
def okN (s : Dk × Ck) : Bool := decide (stE s.1 s.2 (chR aC1) = 0) && !s.2.broken && roomB s.1 s.2
def okAll : Nat → Dk × Ck → Bool
  | 0, _ => true
  | n + 1, s => okN s && okAll n (nx s)
def itN : Nat → Dk × Ck → Dk × Ck
  | 0, s => s
  | n + 1, s => itN n (nx s)
theorem okAll_at : ∀ (n : Nat) (s : Dk × Ck), okAll n s = true → ∀ i, i < n → okN (itN i s) = true
  | 0, _, _, i, hi => by omega
  | n + 1, s, h, 0, _ => by
    rw [okAll, Bool.and_eq_true] at h
    exact h.1
  | n + 1, s, h, i + 1, hi => by
    rw [okAll, Bool.and_eq_true] at h
    exact okAll_at n (nx s) h.2 i (by omega)
theorem itN_nx : ∀ (n : Nat) (s : Dk × Ck), itN n (nx s) = nx (itN n s)
  | 0, _ => rfl
  | n + 1, s => by rw [itN, itN, itN_nx n (nx s)]
theorem ok40 : okAll 40 (aS0, aK0) = true := by kernel_rfl
/-- Behind forty writings. -/
def qS1 : Dk := (itN 40 (aS0, aK0)).1
def qK1 : Ck := (itN 40 (aS0, aK0)).2
abbrev qF : ByteArray := fileB v1B 1
def qS2 : Dk := rnS (csS qS1 qK1) (fileB qK1.nm 1) (recsP (kvL qK1.kv))
def qL : List Sg := [⟨1, [aC1], []⟩]
theorem qFs2 : qS2.fs.map Prod.fst = [(fileB v1B 1).data.toList] := by kernel_rfl
theorem qBt2 : bts qS2 (fileB v1B 1).data.toList = some ([aC1].flatMap chB ++ []) := by kernel_rfl
theorem qNm : qK1.nm = v1B := by kernel_rfl
theorem qSound2 : Sound qS2 v1B qL := by
  have hm : ∀ x ∈ qL, x = ⟨1, [aC1], []⟩ := fun x hx => by simpa [qL] using hx
  refine ⟨by simp [qL], fun x hx => ?_, fun x hx => ?_, fun x hx => ?_, fun x hx => ?_, fun k _ h => ?_⟩
  · rw [hm x hx]; exact ⟨by decide, by decide⟩
  · rw [hm x hx]; exact qBt2
  · rw [hm x hx]
    intro c hc
    simp at hc
    subst hc
    show cfE _ _ = 0
    kernel_rfl
  · rw [hm x hx]; intro e; exact absurd rfl e
  · have := bts_mem.1 h
    rw [qFs2] at this
    simp at this
    exact ⟨⟨1, [aC1], []⟩, by simp [qL], by rw [this]⟩
theorem qKv1 : kvL qK1.kv = [([97], [49])] := by kernel_rfl
theorem qGo : SqGo qS1 qK1 1 qL where
  ok := by kernel_rfl
  segs := by kernel_rfl
  num := ⟨by decide, by decide⟩
  dead := by
    have : qK1.recs - (qK1.kv.length : Int) = 39 := by kernel_rfl
    rw [this]; decide
  size := of_decide_eq_true (by kernel_rfl)
  com := by kernel_rfl
  keys := fun p hp => by
    rw [qKv1] at hp
    simp at hp
    subst hp
    kernel_rfl
  small := of_decide_eq_true (by kernel_rfl)
  sync := by kernel_rfl
  files := of_decide_eq_true (by kernel_rfl)
  ren := by kernel_rfl
  on := by kernel_rfl
  sound := by
    show Sound qS2 qK1.nm qL
    rw [qNm]; exact qSound2
  load := by kernel_rfl
  long := by simp [qL]
  many := by simp [qL]
  same := ⟨by kernel_rfl, by kernel_rfl, by kernel_rfl⟩
/-- Behind the squash. -/
def qS3 : Dk := ldS qS2 v1B qL
def qK3 : Ck := ldK v1B qL
theorem qEq3 : ldS (rnS (csS qS1 qK1) (fileB qK1.nm 1) (recsP (kvL qK1.kv))) qK1.nm qL = qS3 := by
  show ldS qS2 qK1.nm qL = qS3
  rw [qNm]; rfl
abbrev nB : ByteArray := ⟨#[110]⟩
theorem qLs3 : LsIs qS3 (cntB nB) 0 0 := .inr (.inl ⟨by kernel_rfl, rfl, rfl⟩)
def qS4 : Dk := rnS qS3 (cntB nB) [lsB 100]
theorem qE4 : rnE qS3 (cntB nB) [lsB 100] = 0 := by kernel_rfl
theorem qLs4 : LsIs qS4 (cntB nB) 100 0 := .inl ⟨by kernel_rfl, by kernel_rfl, rfl⟩
def qS5 : Dk := rnS qS4 (cntB nB) [lsB 200]
theorem qE5 : rnE qS4 (cntB nB) [lsB 200] = 0 := by kernel_rfl
theorem qLen : qS3.fs.length < 256 ∧ qS4.fs.length < 256 := ⟨of_decide_eq_true (by kernel_rfl), of_decide_eq_true (by kernel_rfl)⟩
theorem qCom : nameOk (comB (cntB nB)) = true := by kernel_rfl
theorem qCap : capOk nB = true := by kernel_rfl
theorem qDead : qK1.recs - (qK1.kv.length : Int) = 39 ∧ (qK1.kv.length : Int) = 1 := ⟨by kernel_rfl, by kernel_rfl⟩
theorem qDead3 : qK3.recs - (qK3.kv.length : Int) = 0 ∧ qK3.segs.length = 1 := ⟨by kernel_rfl, by kernel_rfl⟩
theorem qR : qK1.recs - (ldK qK1.nm qL).recs = 39 := by kernel_rfl
end Go.Proofs.YtfmmholkeadejaaGreatDoor

/- law05's awake (43). -/
namespace Go.Proofs.YtfmmholkeadejaaGreatDoor
open Go.RowKit Go.Maps Go.WideMaps

theorem Holds.cupd {W W' : World} {N : Lo} {k j : Nat} {cs : List Value} {t : TypeId} (h : Holds W j cs t) (hu : CUpd N (fun i => i = k) W W') (hne : j ≠ k) (h1 : t ≠ 122) (h2 : t ≠ 128) (h3 : t ≠ 5) : Holds W' j cs t := by
  have := h.lt
  unfold Holds
  rw [hu.block j this hne (.inr (h.foreign h1 h2 h3))]; exact h
theorem Cur.count {w0 W W' : World} {N : Lo} {c d mb k : Nat} {S S' : Dk} {K : Ck} {cs : List Value} (h : Cur w0 W N c d mb S K) (hk : Holds W k cs 72) (hk0 : w0.heap.size ≤ k) (hu : CUpd N (fun i => i = k) W W') (hd : DiskAt W' N d S') : Cur w0 W' N c d mb S' K := by
  obtain ⟨sv, o⟩ := h.op
  have hB : Below N W W' := hu.below h.sz (fun i hi => by rw [hi]; show N.n ≤ k; rw [h.lo]; exact hk0)
  have hne : ∀ (j : Nat) ob, W.heap[j]? = some ob → (∀ cs' fr, ob ≠ Obj.cells cs' 72 fr) → j ≠ k := fun j ob hj ho e => by
    subst e
    unfold Holds at hk
    rw [hk] at hj
    cases hj
    exact ho _ _ rfl
  refine ⟨⟨sv, ?_, o.le, o.guard2, fun j hj => Nat.lt_of_lt_of_le (o.lt j hj) hu.size, ?_, ?_, hd, o.fine⟩, h.lo, h.tab.on hB, h.bel.trans (by have := h.lo; rw [← this]; exact hB)⟩
  · exact o.holds.cupd hu (hne c _ o.holds (fun _ _ e => by simp at e)) (by decide) (by decide) (by decide)
  · obtain ⟨es, cl, q⟩ := o.keys.isMap
    refine o.keys.same (hu.block mb (Array.getElem?_eq_some_iff.1 q).1 (hne mb _ q (fun _ _ e => by cases e)) (.inl (.inr ⟨o.guard, es, cl, q⟩)))
  · exact row_same o.row (fun j cs' fr hj => hu.block j (Array.getElem?_eq_some_iff.1 hj).1 (hne j _ hj (fun _ _ e => by simp at e)) (.inr ⟨_, _, _, hj, by decide, by decide, by decide⟩))
set_option maxRecDepth 100000 in
theorem due_yes {w0 w : World} {N : Lo} {c d mb : Nat} {S : Dk} {K : Ck} (h : Cur w0 w N c d mb S K) (h1 : K.recs - (K.kv.length : Int) = 39) (h2 : (K.kv.length : Int) = 1) : Calls Tryz.prog 45 #[.pointer (some ⟨c, 0, none⟩)] w fun e w' => e = .returned (.bool true) ∧ Below w.heap.size w w' := by
  obtain ⟨sv, o⟩ := h.op
  have h25 : Hid (∀ W, Below w.heap.size w W → Calls Tryz.prog 25 #[.pointer (some ⟨c, 0, none⟩)] W fun e w' => e = .returned (.int .i64 39) ∧ Hid (Below w.heap.size w w')) := fun W hb => by
    have := dead_some N c d mb sv S K W (o.below hb)
    rw [h1] at this
    exact this.mono fun e w' ⟨e1, e2⟩ => ⟨e1, hb.trans (e2.mono hb.size)⟩
  have h22 : Hid (∀ W, Below w.heap.size w W → Calls Tryz.prog 22 #[.pointer (some ⟨c, 0, none⟩)] W fun e w' => e = .returned (.int .i64 1) ∧ Hid (Below w.heap.size w w')) := fun W hb => by
    have := len_some N c d mb sv S K W (o.below hb)
    rw [h2] at this
    exact this.mono fun e w' ⟨e1, e2⟩ => ⟨e1, by rw [e2]; exact hb⟩
  have b0 : Hid (Below w.heap.size w w) := Below.refl _ _
  clear o h h1 h2
  go_enter Tryz.func45, Tryz.ntmps45
  go_wp2_with (first
    | (go_at_call 25; refine (h25.out _ u2.out).mono ?_; rintro e w3 ⟨rfl, u3⟩)
    | (go_at_call 22; refine (h22.out _ u1.out).mono ?_; rintro e w2 ⟨rfl, u2⟩)
    | (go_at_call 25; refine (h25.out _ b0.out).mono ?_; rintro e w1 ⟨rfl, u1⟩))
  go_ret
  exact ⟨rfl, u3.out⟩
/-- The cask with its first writings. -/
def QI (w : World) (c d i : Nat) (W : World) : Prop := ∃ N mb, Cur w W N c d mb (itN i (aS0, aK0)).1 (itN i (aS0, aK0)).2
theorem q_put {w W : World} {c d i : Nat} (hi : i < 40) (h : QI w c d i W) : Calls Tryz.prog 18 #[.pointer (some ⟨c, 0, none⟩), .string (bA 97), .string (bA 49)] W fun e w' => e = .returned (.int .i64 0) ∧ QI w c d (i + 1) w' := by
  obtain ⟨N, mb, h⟩ := h
  have ho := okAll_at 40 (aS0, aK0) ok40 i hi
  simp only [okN, Bool.and_eq_true, decide_eq_true_eq, Bool.not_eq_true'] at ho
  obtain ⟨⟨h1, h2⟩, h3⟩ := ho
  have e0 : itN (i + 1) (aS0, aK0) = nx (itN i (aS0, aK0)) := by rw [itN, itN_nx]
  refine (cur_put h (bA 97) (bA 49) (by kernel_rfl) h2 (room_B h3)).mono fun e w' ⟨e1, e2, e3⟩ => ⟨?_, N, mb, ?_⟩
  · rw [e1]; exact congrArg (fun x => Ending.returned (Value.int .i64 x)) h1
  · rw [e0]
    have e4 : stE (itN i (aS0, aK0)).1 (itN i (aS0, aK0)).2 (chR ⟨bA 97, bA 49, false⟩) = 0 := h1
    rw [if_pos e4] at e2
    exact e2
/-- The cask squashed, and the counters. -/
def Q3 (w : World) (c d : Nat) (S : Dk) (W : World) : Prop := ∃ N mb, Cur w W N c d mb S qK3
theorem Q3.below {w W W' : World} {c d : Nat} {S : Dk} (h : Q3 w c d S W) (hb : Below W.heap.size W W') : Q3 w c d S W' := by
  obtain ⟨N, mb, h⟩ := h
  exact ⟨N, mb, h.below hb⟩
theorem q_squash {w W : World} {c d : Nat} (h : QI w c d 40 W) : Calls Tryz.prog 39 #[.pointer (some ⟨c, 0, none⟩)] W fun e w' => e = .returned (.tuple #[.int .i64 39, .int .i64 0]) ∧ Q3 w c d qS3 w' := by
  obtain ⟨N, mb, h⟩ := h
  refine (squash_one qGo h 39 qR).mono fun e w' ⟨e1, mb2, e2⟩ => ⟨e1, N.with mb2, mb2, ?_⟩
  rw [qEq3] at e2
  have e3 : ldK qK1.nm qL = qK3 := by rw [qNm]; rfl
  rw [e3] at e2
  exact e2
/-- A counter beside it. -/
structure Q4 (w : World) (c d k : Nat) (S : Dk) (last given : Nat) (W : World) : Prop where
  cask : Q3 w c d S W
  cnt : Holds W k (ctV d nB last given false) 72
  le : w.heap.size ≤ k
theorem q_new {w W : World} {c d : Nat} {S : Dk} {v : Nat} (hv : v < 18446744073709551616) (hL : LsIs S (cntB nB) v 0) (h : Q3 w c d S W) : Calls Tryz.prog 41 #[.pointer (some ⟨d, 0, none⟩), .string nB] W fun e w' => ∃ k, e = .returned (.tuple #[.pointer (some ⟨k, 0, none⟩), .int .i64 0]) ∧ Q4 w c d k S v v w' ∧ W.heap.size ≤ k ∧ Below W.heap.size W w' := by
  have h' := h
  obtain ⟨N, mb, h⟩ := h
  obtain ⟨sv, o⟩ := h.op
  exact (newc_ok N d S nB qCap (by decide) v hv hL W o.disk h.sz h.tab).mono fun e w' ⟨k, e1, e2, e3, e4⟩ => ⟨k, e1, ⟨h'.below e4, e2, Nat.le_trans h.bel.size e3⟩, e3, e4⟩
theorem q_more {w W : World} {c d k : Nat} {S : Dk} {v g : Nat} (hv : v < 18446744073709551616) (hL : LsIs S (cntB nB) v 0) (hg : max v v = g) (hgl : g + 100 < 18446744073709551616) (hE : rnE S (cntB nB) [lsB (g + 100)] = 0) (hlen : S.fs.length < 256) (h : Q4 w c d k S v v W) :
    Calls Tryz.prog 42 #[.pointer (some ⟨k, 0, none⟩)] W fun e w' => e = .returned (.tuple #[.int .u64 ((g + 1 : Nat) : Int), .int .i64 0]) ∧ Q4 w c d k (rnS S (cntB nB) [lsB (g + 100)]) (g + 100) (g + 1) w' ∧ ∀ j cs, j ≠ k → Holds W j cs 72 → Holds w' j cs 72 := by
  obtain ⟨N, mb, hc⟩ := h.cask
  obtain ⟨sv, o⟩ := hc.op
  have := next_more N d k S nB qCom (by decide) v v g 0 hv hL hg hgl hlen W o.disk o.lt h.cnt
  rw [hE, if_pos rfl, if_pos rfl] at this
  exact this.mono fun e w' ⟨e1, e2, e3, e4⟩ => ⟨e1, ⟨⟨N, mb, hc.count h.cnt h.le e4 e2⟩, e3, h.le⟩, fun j cs hj hh => hh.cupd e4 hj (by decide) (by decide) (by decide)⟩
theorem q_have {w W : World} {c d k : Nat} {S : Dk} {last given : Nat} (hg : given < last) (hl : last < 18446744073709551616) (h : Q4 w c d k S last given W) :
    Calls Tryz.prog 42 #[.pointer (some ⟨k, 0, none⟩)] W fun e w' => e = .returned (.tuple #[.int .u64 ((given + 1 : Nat) : Int), .int .i64 0]) ∧ Q4 w c d k S last (given + 1) w' := by
  refine (next_have d k nB last given hg hl W h.cnt).mono ?_
  rintro e w' ⟨e1, rfl⟩
  obtain ⟨N, mb, hc⟩ := h.cask
  obtain ⟨sv, o⟩ := hc.op
  have hd : Holds W.drew k (ctV d nB last given false) 72 := h.cnt
  have hu : CUpd N (fun i => i = k) W (W.drew.setCell ⟨k, 3, none⟩ (.int .u64 ((given + 1 : Nat) : Int))) := ((CUpd.refl N _ W).drew).set k 3 _ rfl
  exact ⟨e1, ⟨N, mb, hc.count h.cnt h.le hu (o.disk.drew.setC hd (by decide) (by decide) (by decide) 3 _)⟩, hd.set 3 _, h.le⟩
theorem q_dead {w W : World} {c d : Nat} {S : Dk} (h : Q3 w c d S W) : Calls Tryz.prog 25 #[.pointer (some ⟨c, 0, none⟩)] W fun e w' => e = .returned (.int .i64 0) ∧ Below W.heap.size W w' := by
  obtain ⟨N, mb, h⟩ := h
  obtain ⟨sv, o⟩ := h.op
  have := dead_some N c d mb sv S qK3 W o
  rw [qDead3.1] at this
  exact this
theorem q_segs {w W : World} {c d : Nat} {S : Dk} (h : Q3 w c d S W) : Calls Tryz.prog 24 #[.pointer (some ⟨c, 0, none⟩)] W fun e w' => ∃ a q, e = .returned (.slice a 1 q) ∧ Below W.heap.size W w' := by
  obtain ⟨N, mb, h⟩ := h
  obtain ⟨sv, o⟩ := h.op
  refine (segments_some N c d mb sv S qK3 W o).mono fun e w' ⟨v, e1, e2, e3⟩ => ?_
  rw [qDead3.2] at e2
  obtain ⟨a, q, rfl⟩ := row_slice e2
  exact ⟨a, q, e1, e3⟩
set_option maxHeartbeats 3200000 in
set_option maxRecDepth 100000 in
theorem awake5_any (w : World) (hT : Tab w.heap.size w) : Calls Tryz.prog 43 #[] w fun e w' => e = .returned (.bool true) ∧ Hid (Below w.heap.size w w') := by
  have b0 : Hid (Below w.heap.size w w) := Below.refl _ _
  have h29 : Hid (Calls Tryz.prog 29 #[.int .i64 100000] w fun e w' => e = .returned (.pointer (some ⟨w.heap.size, 0, none⟩)) ∧ Hid (DCur w w' (lo0 w) w.heap.size (newS 100000))) := full_new w w hT b0.out 100000
  have h16 : Hid (∀ W d, Hid (DCur w W (lo0 w) d (newS 100000)) → Calls Tryz.prog 16 #[.pointer (some ⟨d, 0, none⟩), .string v1B] W fun e w' => ∃ c, e = .returned (.tuple #[.pointer (some ⟨c, 0, none⟩), .int .i64 0]) ∧ Hid (QI w c d 0 w')) := fun W d h => (dcur_open h.out aCalm0 v1B aCap [] aSound0 (by simp) (by simp)).mono fun e w' ⟨c, mb, e1, e2, e3⟩ => ⟨c, e1, _, mb, e2⟩
  have h18 : Hid (∀ W c d i, i < 40 → Hid (QI w c d i W) → Calls Tryz.prog 18 #[.pointer (some ⟨c, 0, none⟩), .string (bA 97), .string (bA 49)] W fun e w' => e = .returned (.int .i64 0) ∧ Hid (QI w c d (i + 1) w')) := fun W c d i hi h => q_put hi h.out
  have h45 : Hid (∀ W c d, Hid (QI w c d 40 W) → Calls Tryz.prog 45 #[.pointer (some ⟨c, 0, none⟩)] W fun e w' => e = .returned (.bool true) ∧ Hid (QI w c d 40 w')) := fun W c d h => by
    obtain ⟨N, mb, h⟩ := h.out
    exact (due_yes h qDead.1 qDead.2).mono fun e w' ⟨e1, e2⟩ => ⟨e1, N, mb, h.below e2⟩
  have h39 : Hid (∀ W c d, Hid (QI w c d 40 W) → Calls Tryz.prog 39 #[.pointer (some ⟨c, 0, none⟩)] W fun e w' => e = .returned (.tuple #[.int .i64 39, .int .i64 0]) ∧ Hid (Q3 w c d qS3 w')) := fun W c d h => q_squash h.out
  have h41 : Hid (∀ W c d, Hid (Q3 w c d qS3 W) → Calls Tryz.prog 41 #[.pointer (some ⟨d, 0, none⟩), .string nB] W fun e w' => ∃ k, e = .returned (.tuple #[.pointer (some ⟨k, 0, none⟩), .int .i64 0]) ∧ Hid (Q4 w c d k qS3 0 0 w')) := fun W c d h => (q_new (by decide) qLs3 h.out).mono fun e w' ⟨k, e1, e2, _⟩ => ⟨k, e1, e2⟩
  have h42 : Hid (∀ W c d k, Hid (Q4 w c d k qS3 0 0 W) → Calls Tryz.prog 42 #[.pointer (some ⟨k, 0, none⟩)] W fun e w' => e = .returned (.tuple #[.int .u64 1, .int .i64 0]) ∧ Hid (Q4 w c d k qS4 100 1 w')) := fun W c d k h => (q_more (g := 0) (by decide) qLs3 rfl (by decide) qE4 qLen.1 h.out).mono fun e w' ⟨e1, e2, _⟩ => ⟨e1, e2⟩
  have h42b : Hid (∀ W c d k, Hid (Q4 w c d k qS4 100 1 W) → Calls Tryz.prog 42 #[.pointer (some ⟨k, 0, none⟩)] W fun e w' => e = .returned (.tuple #[.int .u64 2, .int .i64 0]) ∧ Hid (Q4 w c d k qS4 100 2 w')) := fun W c d k h => q_have (by decide) (by decide) h.out
  have h41b : Hid (∀ W c d k, Hid (Q4 w c d k qS4 100 2 W) → Calls Tryz.prog 41 #[.pointer (some ⟨d, 0, none⟩), .string nB] W fun e w' => ∃ m, e = .returned (.tuple #[.pointer (some ⟨m, 0, none⟩), .int .i64 0]) ∧ Hid (Q4 w c d m qS4 100 100 w' ∧ m ≠ k ∧ Holds w' k (ctV d nB 100 2 false) 72)) := fun W c d k h => (q_new (by decide) qLs4 h.out.cask).mono fun e w' ⟨m, e1, e2, e3, e4⟩ => ⟨m, e1, e2, by have := h.out.cnt.lt; omega, h.out.cnt.below e4 h.out.cnt.lt⟩
  have h42c : Hid (∀ W c d k m, Hid (Q4 w c d m qS4 100 100 W ∧ m ≠ k ∧ Holds W k (ctV d nB 100 2 false) 72) → Calls Tryz.prog 42 #[.pointer (some ⟨m, 0, none⟩)] W fun e w' => e = .returned (.tuple #[.int .u64 101, .int .i64 0]) ∧ Hid (Q3 w c d qS5 w' ∧ Holds w' k (ctV d nB 100 2 false) 72)) := fun W c d k m h => (q_more (g := 100) (by decide) qLs4 rfl (by decide) qE5 qLen.2 h.out.1).mono fun e w' ⟨e1, e2, e3⟩ => ⟨e1, e2.cask, e3 k _ (fun e => h.out.2.1 e.symm) h.out.2.2⟩
  have h25 : Hid (∀ W c d k, Hid (Q3 w c d qS5 W ∧ Holds W k (ctV d nB 100 2 false) 72) → Calls Tryz.prog 25 #[.pointer (some ⟨c, 0, none⟩)] W fun e w' => e = .returned (.int .i64 0) ∧ Hid (Q3 w c d qS5 w' ∧ Holds w' k (ctV d nB 100 2 false) 72)) := fun W c d k h => (q_dead h.out.1).mono fun e w' ⟨e1, e2⟩ => ⟨e1, h.out.1.below e2, h.out.2.below e2 h.out.2.lt⟩
  have h24 : Hid (∀ W c d k, Hid (Q3 w c d qS5 W ∧ Holds W k (ctV d nB 100 2 false) 72) → Calls Tryz.prog 24 #[.pointer (some ⟨c, 0, none⟩)] W fun e w' => ∃ a q, e = .returned (.slice a 1 q) ∧ Hid (Q3 w c d qS5 w' ∧ Holds w' k (ctV d nB 100 2 false) 72)) := fun W c d k h => (q_segs h.out.1).mono fun e w' ⟨a, q, e1, e2⟩ => ⟨a, q, e1, h.out.1.below e2, h.out.2.below e2 h.out.2.lt⟩
  have h44 : Hid (∀ W c d k, Hid (Q3 w c d qS5 W ∧ Holds W k (ctV d nB 100 2 false) 72) → Calls Tryz.prog 44 #[.pointer (some ⟨k, 0, none⟩)] W fun e w' => e = .returned (.int .u64 100) ∧ w' = W) := fun W c d k h => leased_some d k nB 100 2 false W h.out.2
  have hfin : Hid (∀ W c d, Q3 w c d qS5 W → Below w.heap.size w W) := fun W c d h => by
    obtain ⟨N, mb, h⟩ := h
    exact h.bel
  clear hT
  go_enter Tryz.func43, Tryz.ntmps43
  go_wp2_with (first
    | (go_at_call 16; refine (h16.out _ _ sn).mono ?_; rintro e w2 ⟨c, rfl, s0⟩)
    | (go_at_call 29; refine h29.out.mono ?_; rintro e wn ⟨rfl, sn⟩))
  obtain ⟨Db, hDb⟩ : ∃ Db, w.heap.size = Db := ⟨_, rfl⟩
  rw [hDb] at s0 ⊢
  clear h29 h16 sn b0
  clear hDb
  go_loopw [4] (fun p wr => ∃ i : Nat, i ≤ 40 ∧ p = .int .i64 (i : Int) ∧ Hid (QI w c Db i wr)) (fun p _ => 40 - (intOf p).toNat)
  case atStart => exact ⟨0, by omega, rfl, s0⟩
  case round =>
    obtain ⟨i, hi, rfl, hI⟩ := hrel
    clear s0
    rcases Nat.lt_or_ge i 40 with hlt | hge
    · have g1 : (i : Int) < 40 := by omega
      have g4 : IntKind.i64.wrap ((i : Int) + 1) = (i : Int) + 1 := by simp [IntKind.wrap, IntKind.bits, IntKind.signed]; omega
      go_wp2_with (go_at_call 18; refine (h18.out _ _ _ _ hlt hI).mono ?_; rintro e w3 ⟨rfl, s3⟩)
      go_roundw
      case rel => exact ⟨i + 1, by omega, by simp, s3⟩
      case measure => simp; omega
    · obtain rfl : i = 40 := by omega
      go_wp2_with (first
        | (go_at_call 44; refine (h44.out _ _ _ _ t9).mono ?_; rintro e w10 ⟨rfl, e10⟩; rw [e10]; clear e10)
        | (go_at_call 24; refine (h24.out _ _ _ _ t8).mono ?_; rintro e w9 ⟨a9, q9, rfl, t9⟩)
        | (go_at_call 25; refine (h25.out _ _ _ _ t7).mono ?_; rintro e w8 ⟨rfl, t8⟩)
        | (go_at_call 42; refine (h42c.out _ _ _ _ _ t6).mono ?_; rintro e w7 ⟨rfl, t7⟩)
        | (go_at_call 41; refine (h41b.out _ _ _ _ t5).mono ?_; rintro e w6 ⟨m, rfl, t6⟩)
        | (go_at_call 42; refine (h42b.out _ _ _ _ t4).mono ?_; rintro e w5 ⟨rfl, t5⟩)
        | (go_at_call 42; refine (h42.out _ _ _ _ t3).mono ?_; rintro e w4 ⟨rfl, t4⟩)
        | (go_at_call 41; refine (h41.out _ _ _ t2).mono ?_; rintro e w3 ⟨k, rfl, t3⟩)
        | (go_at_call 39; refine (h39.out _ _ _ t1).mono ?_; rintro e w2 ⟨rfl, t2⟩)
        | (go_at_call 45; refine (h45.out _ _ _ hI).mono ?_; rintro e w1 ⟨rfl, t1⟩))
      go_ret
      exact ⟨rfl, hfin.out _ _ _ t9.out.1⟩
end Go.Proofs.YtfmmholkeadejaaGreatDoor
