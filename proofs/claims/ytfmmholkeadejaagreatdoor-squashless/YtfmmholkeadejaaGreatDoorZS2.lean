/- SqShed, SqShedW, SqSteps1, SqStepsW. -/
import Derived.Deep.RegionHeld3
import Derived.Test.YtfmmholkeadejaaGreatDoorZShelf
import Derived.Test.YtfmmholkeadejaaGreatDoorZC6
import Derived.Test.YtfmmholkeadejaaGreatDoorZC1
import Derived.Test.YtfmmholkeadejaaGreatDoorZCkFull
import Derived.Test.YtfmmholkeadejaaGreatDoorZSqRenew
import Derived.Test.YtfmmholkeadejaaGreatDoorZSqOrder
/- What a squashed segment has, where no older one is: spoken (167), squashed (130). -/
namespace Go.Proofs.YtfmmholkeadejaaGreatDoor
open Go.RowKit

theorem compact_none (w : World) : Calls Tryz.prog 201 #[.slice none 0 0] w fun e w' => e = .returned (.slice none 0 0) ∧ w' = w := by
  go_enter Tryz.func201, Tryz.ntmps201
  go_wp2
  go_ret
  exact ⟨rfl, rfl⟩
set_option maxHeartbeats 1600000 in
set_option maxRecDepth 100000 in
theorem spoken_none (d : Option Addr) (a : Option Addr) (q : Nat) (w : World) : Calls Tryz.prog 167 #[.pointer d, .slice a 0 q] w fun e w' => e = .returned (.tuple #[.slice none 0 0, .int .i64 0]) ∧ w' = w := by
  have h159 : Hid (∀ W, Calls Tryz.prog 159 #[.slice none 0 0] W fun e w' => e = .returned (.tuple #[]) ∧ w' = W) := fun W => AnyM.slices_Sort_string_none Tryz.laysSlM6_f159 none 0 W
  have h201 : Hid (∀ W, Calls Tryz.prog 201 #[.slice none 0 0] W fun e w' => e = .returned (.slice none 0 0) ∧ w' = W) := fun W => compact_none W
  go_enter Tryz.func167, Tryz.ntmps167
  go_wp2_with fail
  go_loopw [6, 18] (fun v p wr => v = .slice none 0 0 ∧ p = .int .i64 0 ∧ wr = w) (fun _ p _ => 0)
  case atStart => exact ⟨rfl, rfl, rfl⟩
  case round =>
    obtain ⟨rfl, rfl, rfl⟩ := hrel
    go_wp2_with (first
      | (go_at_call 201; refine (h201.out _).mono ?_; rintro e w2 ⟨rfl, e2⟩; rw [e2]; clear e2)
      | (go_at_call 159; refine (h159.out _).mono ?_; rintro e w1 ⟨rfl, e1⟩; rw [e1]; clear e1))
    go_ret2
    exact ⟨rfl, rfl⟩
/-- Rows of texts and their boxes may turn, above a mark; all else stays. -/
structure AUpd (B : Nat) (w w' : World) : Prop where
  os : w'.os = w.os
  tape : w'.tape = w.tape
  output : w'.output = w.output
  size : w.heap.size ≤ w'.heap.size
  block : ∀ (i : Nat) o, w.heap[i]? = some o → (i < B ∨ ((∀ cs fr, o ≠ Obj.cells cs 9 fr) ∧ ∀ cs fr, o ≠ Obj.cells cs 108 fr)) → w'.heap[i]? = w.heap[i]?
theorem AUpd.refl (B : Nat) (w : World) : AUpd B w w := ⟨rfl, rfl, rfl, Nat.le_refl _, fun _ _ _ _ => rfl⟩
theorem AUpd.trans {B : Nat} {x y z : World} (h : AUpd B x y) (k : AUpd B y z) : AUpd B x z :=
  ⟨k.os.trans h.os, k.tape.trans h.tape, k.output.trans h.output, Nat.le_trans h.size k.size, fun i o hi hc =>
    have e := h.block i o hi hc
    (k.block i o (e.trans hi) hc).trans e⟩
theorem AUpd.ofBelow {B : Nat} {x y : World} (h : Below x.heap.size x y) : AUpd B x y := ⟨h.os, h.tape, h.output, h.size, fun i _ hi _ => h.block i (Array.getElem?_eq_some_iff.1 hi).1⟩
theorem AUpd.below {B : Nat} {x y : World} (h : AUpd B x y) (hB : B ≤ x.heap.size) : Below B x y :=
  ⟨h.os, h.tape, h.output, h.size, fun i hi => by
    have : i < x.heap.size := by omega
    obtain ⟨o, ho⟩ : ∃ o, x.heap[i]? = some o := ⟨_, Array.getElem?_eq_getElem this⟩
    exact h.block i o ho (.inl hi)⟩
theorem AUpd.cask {B : Nat} {w w' : World} {N : Lo} {c d mb : Nat} {sv : Value} {S : Dk} {K : Ck} (h : CaskOpen w N c d mb sv S K) (hu : AUpd B w w') : CaskOpen w' N c d mb sv S K := by
  have hne : ∀ (j : Nat) o, w.heap[j]? = some o → (∀ cs fr, o ≠ Obj.cells cs 9 fr) → (∀ cs fr, o ≠ Obj.cells cs 108 fr) → w'.heap[j]? = w.heap[j]? := fun j o hj h1 h2 => hu.block j o hj (.inr ⟨h1, h2⟩)
  have hH : Holds w' c (ckV d mb sv K) 28 := by
    have q := h.holds
    unfold Holds at q ⊢
    rw [hne c _ q (fun cs fr e => by simp at e) (fun cs fr e => by simp at e)]; exact q
  have hD : DiskAt w' N d S := by
    obtain ⟨mv, st, A, V, q, hN, hM, hF, hS⟩ := h.disk
    refine ⟨mv, st, A, V, ?_, hN, hM.same (fun j es k hj => hne j _ hj (fun _ _ e => by cases e) (fun _ _ e => by cases e)), hF.same (fun j cs t fr hj ht => hne j _ hj (fun _ _ e => by simp at e; rcases ht with rfl | rfl <;> simp at e) (fun _ _ e => by simp at e; rcases ht with rfl | rfl <;> simp at e)), hS⟩
    unfold Holds at q ⊢
    rw [hne d _ q (fun cs fr e => by simp at e) (fun cs fr e => by simp at e)]; exact q
  refine ⟨hH, h.le, h.guard2, fun j hj => Nat.lt_of_lt_of_le (h.lt j hj) hu.size, ?_, row_same h.row (fun j cs fr hj => hne j _ hj (fun _ _ e => by simp at e) (fun _ _ e => by simp at e)), hD, h.fine⟩
  obtain ⟨es, cl, q⟩ := h.keys.isMap
  exact h.keys.same (hne mb _ q (fun _ _ e => by cases e) (fun _ _ e => by cases e))
theorem info9s : (Tryz.prog.info? 9).map (fun i => (i.zero, i.size, i.bytes)) = some (some (.string ⟨#[]⟩), 1, 16) := by kernel_rfl
def strV (rs : List ByteArray) : List Value := rs.map .string
theorem new_onek (W : World) (s : ByteArray) : ∀ j u, [Value.string s][j]? = some u → (W.alloc (.cells #[.string s] 9)).cell? ((⟨W.heap.size, 0, none⟩ : Addr).add j) = some u := fun j u hu => by
  have := (holds_new W [.string s] 9).at j u hu
  have e : (⟨W.heap.size, 0, none⟩ : Addr).add j = ⟨W.heap.size, j, none⟩ := by simp [Addr.add]; exact fun h => h.symm
  rw [e]; exact this
theorem row_own {W : World} {B : Nat} {v : Value} {n : Nat} {xs : List Value} {j : Nat} (hr : W.ownsRow B 9 1 v n xs) (e : some j = v.ownBlock) : B ≤ j ∧ ∃ cs, W.heap[j]? = some (Obj.cells cs 9 (0, 0)) := by
  rcases hr.2 with ⟨q, _⟩ | ⟨g, cap, cur, q, hb, hh, _⟩
  · rw [q] at e; simp [Value.ownBlock] at e
  · rw [q] at e
    obtain rfl : j = g := by simpa [Value.ownBlock] using e
    exact ⟨hb, _, hh⟩
theorem grown_holds {W W' : World} {B : Nat} {v : Value} {n : Nat} {xs : List Value} {lb : Nat} {cs : List Value} {t : TypeId} (hr : W.ownsRow B 9 1 v n xs) (hg : W.grownBy W' v.ownBlock) (h : Holds W lb cs t) (ht : t ≠ 9) : Holds W' lb cs t := by
  have hlt := h.lt
  unfold Holds at h ⊢
  rw [hg.block lb hlt (fun e => by
    obtain ⟨_, cs', hh⟩ := row_own hr e
    rw [h] at hh
    simp at hh
    exact ht hh.2)]
  exact h
theorem AUpd.grown {W W' : World} {B : Nat} {v : Value} {n : Nat} {xs : List Value} (hr : W.ownsRow B 9 1 v n xs) (hg : W.grownBy W' v.ownBlock) : AUpd B W W' :=
  ⟨hg.os, hg.tape, hg.output, hg.size, fun i o hi hc => hg.block i (Array.getElem?_eq_some_iff.1 hi).1 (fun e => by
    obtain ⟨hb, cs', hh⟩ := row_own hr e
    rcases hc with hc | ⟨hc, _⟩
    · omega
    · rw [hh] at hi
      cases hi
      exact hc _ _ rfl)⟩
theorem AUpd.set {W : World} {B lb : Nat} {cs : List Value} (h : Holds W lb cs 108) (hB : B ≤ lb) (i : Nat) (v : Value) : AUpd B W (W.setCell ⟨lb, i, none⟩ v) :=
  ⟨rfl, rfl, rfl, by simp, fun j o hj hc => heap_setCell_other W ⟨lb, i, none⟩ j v (fun e => by
    have e : j = lb := e
    subst e
    rcases hc with hc | ⟨_, hc⟩
    · omega
    · unfold Holds at h
      rw [h] at hj
      cases hj
      exact hc _ _ rfl)⟩
set_option maxHeartbeats 1600000 in
set_option maxRecDepth 100000 in
/-- The closure that adds a record to a boxed list. -/
theorem add_rec (B lb : Nat) (sv : Value) (rs : List ByteArray) (k v : ByteArray) (dead : Bool) (hE : cfE k v = 0) (hl : rs.length < 16777216) (W : World) (hB : B ≤ lb) (h : Holds W lb [sv] 108) (hr : W.ownsRow B 9 1 sv rs.length (strV rs)) :
    Calls Tryz.prog 168 #[.string k, .string v, .bool dead, .pointer (some ⟨lb, 0, none⟩)] W fun e w' => e = .returned (.tuple #[]) ∧ ∃ sv', Holds w' lb [sv'] 108 ∧ w'.ownsRow B 9 1 sv' (rs ++ [recV k v dead]).length (strV (rs ++ [recV k v dead])) ∧ AUpd B W w' := by
  have h34 : Hid (Calls Tryz.prog 34 #[.string k, .string v, .bool dead] W fun e w' => e = .returned (.tuple #[.string (recV k v dead), .int .i64 0]) ∧ Below W.heap.size W w') := by
    have := record_any k v dead W
    rw [hE] at this
    exact this
  obtain ⟨i9, hi9, hz0, hz1, hz2⟩ := info_parts info9s
  obtain ⟨n, hn⟩ : ∃ n, rs.length = n := ⟨_, rfl⟩
  rw [hn] at hr hl
  have hlt := h.lt
  have HR : Hid (∀ W', Below W.heap.size W W' → W'.ownsRow B 9 1 sv n (strV rs)) := fun W' hb => row_below hr hb
  have HH : Hid (∀ W', Below W.heap.size W W' → Holds W' lb [sv] 108) := fun W' hb => h.below hb hlt
  obtain ⟨a1, q1, e1⟩ := row_slice hr
  generalize recV k v dead = rc at *
  clear h hr
  subst e1
  go_enter Tryz.func168, Tryz.ntmps168
  go_wp2_with (first
    | (at_builtin; go_loud (refine wpList_append_src rfl _ _ 108 rfl B 9 i9 (.string ⟨#[]⟩) 1 16 Tryz.underlying108 hi9 hz0 hz1 hz2 rfl (by decide) _ _ _ (R1.alloc _) rfl [.string rc] (some ⟨w1.heap.size, 0, none⟩) 1 1 rfl rfl (fun _ => ⟨_, rfl, new_onek w1 rc⟩) (by simp [Value.oneCell']) (by unfold maxLen; omega) (by omega) (by simp; omega) ?_; intro v4 w4 own4 grow4 loc4; clear loc4; obtain ⟨a4, c4, rfl⟩ := row_slice own4; have H4 := grown_holds (R1.alloc _) grow4 (H1.alloc _) (by decide); have U4 : Hid (AUpd B W w4) := (AUpd.ofBelow b1).trans ((AUpd.ofBelow ((Below.refl _ w1).alloc (Nat.le_refl _) _)).trans (AUpd.grown (R1.alloc _) grow4)); have O4 : Hid (w4.ownsRow B 9 1 (.slice a4 (n + 1) c4) (n + 1) (strV rs ++ [.string rc])) := own4; have x4 := H4.at 0 _ rfl; have f4 := H4.frozen 0; have H4 : Hid (Holds w4 lb [.slice a1 n q1] 108) := H4; clear own4 grow4))
    | (go_at_call 34; refine h34.out.mono ?_; rintro e w1 ⟨rfl, b1⟩; have R1 := HR.out _ b1; have H1 := HH.out _ b1; have x0 := H1.at 0 _ rfl; have f0 := H1.frozen 0; have z1 := b1.size))
  refine bodyPost_end (results_none (by kernel_rfl) _ _ _) rfl ⟨rfl, .slice a4 (n + 1) c4, H4.out.set 0 _, ?_, U4.out.trans (AUpd.set H4.out hB 0 _)⟩
  have e1 : (rs ++ [rc]).length = n + 1 := by simp [hn]
  have e2 : strV (rs ++ [rc]) = strV rs ++ [.string rc] := by simp [strV]
  rw [e1, e2]
  refine row_same O4.out (fun i cs fr hi => heap_setCell_other w4 ⟨lb, 0, none⟩ i _ (fun e => ?_))
  have e : i = lb := e
  subst e
  have q := H4.out
  unfold Holds at q
  rw [q] at hi
  simp at hi
end Go.Proofs.YtfmmholkeadejaaGreatDoor

/- squashed (130), where no older segment is. -/
namespace Go.Proofs.YtfmmholkeadejaaGreatDoor
open Go.RowKit

/-- The records of pairs. -/
def recP (p : Pr) : ByteArray := recV (strL p.1) (strL p.2) false
def recsP (l : List Pr) : List ByteArray := l.map recP
theorem AUpd.row {B : Nat} {w w' : World} (h : AUpd B w w') {base : Nat} {e : TypeId} {size : Nat} {v : Value} {n : Nat} {xs : List Value} (hr : w.ownsRow base e size v n xs) (h1 : e ≠ 9) (h2 : e ≠ 108) : w'.ownsRow base e size v n xs :=
  row_same hr (fun i cs fr hi => h.block i _ hi (.inr ⟨fun cs' fr' q => by cases q; exact h1 rfl, fun cs' fr' q => by cases q; exact h2 rfl⟩))
theorem recs_step {l : List Pr} {j : Nat} {p : Pr} (h : l[j]? = some p) : recsP (l.take (j + 1)) = recsP (l.take j) ++ [recP p] := by
  unfold recsP
  rw [List.take_add_one, h]
  simp
set_option maxHeartbeats 3200000 in
set_option maxRecDepth 100000 in
theorem squashed_none (N : Lo) (c d mb : Nat) (sv : Value) (S : Dk) (K : Ck) (a : Option Addr) (q : Nat) (w : World) (h : CaskOpen w N c d mb sv S K) (hok0 : ∀ p ∈ kvL K.kv, cfE (strL p.1) (strL p.2) = 0) (hsm : K.kv.length < 16777216) :
    Calls Tryz.prog 130 #[.pointer (some ⟨c, 0, none⟩), .slice a 0 q] w fun e w' => ∃ a2 n2 q2, e = .returned (.tuple #[.slice a2 n2 q2, .int .i64 0]) ∧ w'.ownsRow w.heap.size 9 1 (.slice a2 n2 q2) (recsP (kvL K.kv)).length (strV (recsP (kvL K.kv))) ∧ AUpd w.heap.size w w' := by
  have hmf : ∀ (fn : Fn) (first cap : Array Value) (w : World), (Instr.makeFunc fn first cap).run Tryz.prog w = .ok (.func fn first cap) w := fun _ _ _ _ => rfl
  obtain ⟨B, hB⟩ : ∃ B, w.heap.size = B := ⟨_, rfl⟩
  obtain ⟨l, hl⟩ : ∃ l, kvL K.kv = l := ⟨_, rfl⟩
  have hln : l.length = K.kv.length := by rw [← hl, kvL_len]
  have h27 : Hid (∀ W, Below w.heap.size w W → Calls Tryz.prog 27 #[.pointer (some ⟨c, 0, none⟩)] W fun e w' => e = .returned (.pointer (some ⟨d, 0, none⟩)) ∧ Below W.heap.size W w') := fun W hW => disk_some c d mb sv K W (h.below hW).holds
  have h167 : Hid (∀ W, Calls Tryz.prog 167 #[.pointer (some ⟨d, 0, none⟩), .slice a 0 q] W fun e w' => e = .returned (.tuple #[.slice none 0 0, .int .i64 0]) ∧ w' = W) := fun W => spoken_none _ _ _ W
  have h23 : Hid (∀ W, Below w.heap.size w W → Calls Tryz.prog 23 #[.pointer (some ⟨c, 0, none⟩)] W fun e w' => ∃ fa fq, e = .returned (.slice fa l.length fq) ∧ Below W.heap.size W w' ∧ w'.ownsRow W.heap.size 103 2 (.slice fa l.length fq) l.length (cellsP l)) := fun W hW => (fold_some N c d mb sv S K W (h.below hW)).mono fun e w' ⟨v, e1, e2, e3⟩ => by
    rw [hl, ← hln] at e2
    obtain ⟨fa, fq, rfl⟩ := row_slice e2
    exact ⟨fa, fq, e1, e3, e2⟩
  have hok : Hid (∀ p ∈ l, cfE (strL p.1) (strL p.2) = 0) := by rw [← hl]; exact hok0
  rw [hl]
  rw [hB] at h27 h23 ⊢
  obtain ⟨LN, hLN0⟩ : ∃ LN, l.length = LN := ⟨_, rfl⟩
  rw [hLN0] at h23 hln
  have hLs : LN < 16777216 := by omega
  have hLN : Hid (l.length = LN) := hLN0
  clear hLN0
  have hb0 : Hid (Below B w w) := Below.refl _ _
  have hBh : Hid (w.heap.size = B) := hB
  clear h hl hsm hln hok0
  go_enter Tryz.func130, Tryz.ntmps130
  go_wp2_with (first
    | (go_at_call 23; refine (h23.out _ b2.out).mono ?_; rintro e w3 ⟨fa, fq, rfl, b3, r3⟩)
    | (go_at_call 167; refine (h167.out _).mono ?_; rintro e w2 ⟨rfl, e2⟩; rw [e2]; clear e2)
    | (go_at_call 27; refine (h27.out _ hb0.out).mono ?_; rintro e w1 ⟨rfl, b1⟩; obtain ⟨lb, hlb⟩ : ∃ lb, w1.heap.size = lb := ⟨_, rfl⟩; have hBl : B ≤ lb := (by have := b1.size; omega); have b1 : Below B w w1 := (by rw [hB] at b1; exact b1); have b2 : Hid (Below B w (w1.alloc (.cells #[.slice none 0 0] 108))) := b1.alloc (by omega) _; have X2 : Hid (Holds (w1.alloc (.cells #[.slice none 0 0] 108)) lb [.slice none 0 0] 108) := hlb ▸ holds_new w1 [.slice none 0 0] 108; clear b1))
  have X3 : Hid (Holds w3 lb [.slice none 0 0] 108) := X2.out.below b3 X2.out.lt
  have U0 : Hid (AUpd B w w3) := (AUpd.ofBelow (hBh.out ▸ b2.out : Below w.heap.size w _)).trans (AUpd.ofBelow b3)
  have r3 : Hid (w3.ownsRow B 103 2 (.slice fa LN fq) LN (cellsP l)) := row_base r3 (by have := b2.out.size; have := hBh.out; omega)
  clear b3 b2 X2 h27 h167 h23 hb0
  go_loopw [30] (fun p wr => ∃ j : Nat, j ≤ LN ∧ p = .int .i64 (j : Int) ∧ ∃ rv, Hid (Holds wr lb [rv] 108 ∧ wr.ownsRow B 9 1 rv (recsP (l.take j)).length (strV (recsP (l.take j))) ∧ AUpd B w3 wr)) (fun p _ => LN - (intOf p).toNat)
  case atStart => exact ⟨0, Nat.zero_le _, rfl, .slice none 0 0, X3.out, by simpa [recsP, strV] using World.ownsRow_nil _ _ _ _, AUpd.refl _ _⟩
  case round =>
    obtain ⟨j, hj, rfl, rv, hJ⟩ := hrel
    rcases Nat.lt_or_ge j LN with hjl | hjg
    · have hLN' := hLN.out
      obtain ⟨p, hp⟩ : ∃ p, l[j]? = some p := ⟨_, List.getElem?_eq_getElem (by omega)⟩
      clear hLN'
      obtain ⟨a', q', ev, hcell⟩ := prs_of_row (show wr.ownsRow B 103 2 (.slice fa LN fq) l.length (cellsP l) by rw [hLN.out]; exact hJ.out.2.2.row r3.out (by decide) (by decide))
      injection ev with ev1 ev2 ev3
      subst ev1
      clear ev2 ev3
      obtain ⟨g, o, rfl, hgl, hcc⟩ := hcell (fun e => by rw [e] at hp; simp at hp)
      obtain ⟨y1a, y2a⟩ := hcc j p hp
      have hpE := hok.out p (List.mem_of_getElem? hp)
      have h168 : Hid (∀ W, (AUpd B wr W ∧ ∃ rv2, Holds W lb [rv2] 108 ∧ W.ownsRow B 9 1 rv2 (recsP (l.take j)).length (strV (recsP (l.take j)))) → Calls Tryz.prog 168 #[.string (strL p.1), .string (strL p.2), .bool false, .pointer (some ⟨lb, 0, none⟩)] W fun e w' => e = .returned (.tuple #[]) ∧ ∃ rv', Hid (Holds w' lb [rv'] 108 ∧ w'.ownsRow B 9 1 rv' (recsP (l.take (j + 1))).length (strV (recsP (l.take (j + 1)))) ∧ AUpd B w3 w')) := fun W hW => by
        have r := hJ.out.2.1
        have hB2 : B ≤ wr.heap.size := by have := hJ.out.1.lt; omega
        obtain ⟨rv2, hrv, hrow⟩ : ∃ rv2, Holds W lb [rv2] 108 ∧ W.ownsRow B 9 1 rv2 (recsP (l.take j)).length (strV (recsP (l.take j))) := hW.2
        exact (add_rec B lb rv2 (recsP (l.take j)) (strL p.1) (strL p.2) false hpE (by simp [recsP]; omega) W hBl hrv hrow).mono fun e w' ⟨e1, rv', e2, e3, e4⟩ => ⟨e1, rv', e2, by rw [recs_step hp]; exact e3, (hJ.out.2.2.trans hW.1).trans e4⟩
      obtain ⟨k1, hk1⟩ : ∃ k1, strL p.1 = k1 := ⟨_, rfl⟩
      obtain ⟨k2, hk2⟩ : ∃ k2, strL p.2 = k2 := ⟨_, rfl⟩
      have y1 : wr.cell? ⟨g, o + j * 2, none⟩ = some (.string k1) := by rw [← hk1]; exact y1a
      have y2 : wr.cell? ⟨g, o + j * 2 + 1, none⟩ = some (.string k2) := by rw [← hk2]; exact y2a
      rw [hk1, hk2] at h168
      have g1 : (j : Int) < (LN : Int) := by omega
      have g2 : (0 : Int) ≤ (j : Int) := by omega
      have g4 : IntKind.i64.wrap ((j : Int) + 1) = (j : Int) + 1 := by simp [IntKind.wrap, IntKind.bits, IntKind.signed]; omega
      obtain ⟨pb, hpb⟩ : ∃ pb, wr.heap.size = pb := ⟨_, rfl⟩
      have UB : Hid (∀ W, Below wr.heap.size wr W → AUpd B wr W ∧ ∃ rv2, Holds W lb [rv2] 108 ∧ W.ownsRow B 9 1 rv2 (recsP (l.take j)).length (strV (recsP (l.take j)))) := fun W hb => ⟨AUpd.ofBelow hb, rv, hJ.out.1.below hb hJ.out.1.lt, row_below hJ.out.2.1 hb⟩
      have BA : Hid (∀ o : Obj, Below wr.heap.size wr (wr.alloc o)) := fun o => (Below.refl _ wr).alloc (Nat.le_refl _) o
      clear hcc hcell hpE hk1 hk2 hp hJ y1a y2a
      go_wp2_with (first
        | (go_at_call 168; refine (h168.out _ (UB.out _ (BA.out _))).mono ?_; rintro e w5 ⟨rfl, rv5, s5⟩))
      go_roundw
      case rel => exact ⟨j + 1, by omega, by simp, rv5, s5⟩
      case measure => simp; omega
    · obtain rfl : j = LN := by omega
      have hrw : Hid (Holds wr lb [rv] 108 ∧ wr.ownsRow B 9 1 rv (recsP l).length (strV (recsP l)) ∧ AUpd B w wr) := by
        have := hJ.out
        rw [← hLN.out, List.take_length] at this
        exact ⟨this.1, this.2.1, U0.out.trans this.2.2⟩
      clear hJ X3 U0 r3 hok
      obtain ⟨a2, q2, rfl⟩ := row_slice hrw.out.2.1
      have x0 := hrw.out.1.at 0 _ rfl
      go_wp2_with fail
      go_loopw [43] (fun p wr' => p = .int .i64 0 ∧ wr' = wr) (fun p _ => 0)
      case atStart => exact ⟨rfl, rfl⟩
      case round =>
        obtain ⟨rfl, rfl⟩ := hrel
        go_wp2
        go_ret2
        exact ⟨a2, _, q2, rfl, hrw.out.2.1, hrw.out.2.2⟩
end Go.Proofs.YtfmmholkeadejaaGreatDoor

/- Squash's steps, where no older segment is. -/
namespace Go.Proofs.YtfmmholkeadejaaGreatDoor
open Go.RowKit

set_option maxHeartbeats 1600000 in
set_option maxRecDepth 100000 in
theorem remove_none (d : Nat) (a : Option Addr) (q : Nat) (w : World) : Calls Tryz.prog 92 #[.pointer (some ⟨d, 0, none⟩), .slice a 0 q] w fun e w' => e = .returned (.int .i64 0) ∧ Below w.heap.size w w' := by
  have hmf : ∀ (fn : Fn) (first cap : Array Value) (w : World), (Instr.makeFunc fn first cap).run Tryz.prog w = .ok (.func fn first cap) w := fun _ _ _ _ => rfl
  have h137 : Hid (∀ W fn x y, Calls Tryz.prog 137 #[.pointer (some ⟨d, 0, none⟩), .slice a 0 q, .func fn x y] W fun e w' => e = .returned (.int .i64 0) ∧ w' = W) := fun W fn x y => by
    go_enter Tryz.func137, Tryz.ntmps137
    go_wp2_with fail
    go_loopw [15] (fun c wr => c = .int .i64 0 ∧ wr = W) (fun c _ => 0)
    case atStart => exact ⟨rfl, rfl⟩
    case round =>
      obtain ⟨rfl, rfl⟩ := hrel
      go_wp2
      go_ret
      exact ⟨rfl, rfl⟩
  have hb : Hid (∀ o : Obj, Below w.heap.size w (w.alloc o)) := fun o => (Below.refl _ w).alloc (Nat.le_refl _) o
  go_enter Tryz.func92, Tryz.ntmps92
  go_wp2_with (go_at_call 137; refine (h137.out _ _ _ _).mono ?_; rintro e w2 ⟨rfl, e2⟩; rw [e2]; clear e2)
  go_ret
  exact ⟨rfl, hb.out _⟩
theorem strs_row {W : World} {B n q : Nat} {N : Lo} {a : Option Addr} {rs : List ByteArray} (h : W.ownsRow B 9 1 (.slice a n q) rs.length (strV rs)) : StrsAt W N a rs := by
  rcases h.2 with ⟨e, h0⟩ | ⟨g, cap, cur, e, hb, hh, h1, h2, h3, h4⟩
  · exact .inl h0
  · injection e with e1 e2 e3
    subst e1
    refine .inr ⟨g, 0, rfl, (Array.getElem?_eq_some_iff.1 hh).1, .inr ⟨_, _, _, hh, by decide, by decide, by decide⟩, fun i x hx => ?_⟩
    have hH : Holds W g (strV rs ++ cur.toList.drop (rs.length * 1)) 9 := by
      unfold Holds
      rw [← h4, List.take_append_drop, Array.toArray_toList]
      exact hh
    rw [Nat.zero_add]
    refine hH.at i _ ?_
    have hi := (List.getElem?_eq_some_iff.1 hx).1
    rw [List.getElem?_append_left (by simp [strV]; exact hi)]
    simp [strV, hx]
theorem cask_holds_box {W W' : World} {b : Nat} {cs : List Value} {t : TypeId} (h : Holds W b cs t) (hb : Below W.heap.size W W') : Holds W' b cs t := h.below hb h.lt
theorem rec_small (p : Pr) (h : cfE (strL p.1) (strL p.2) = 0) : (recP p).size ≤ 140737488355328 := by
  have := chR_size ⟨strL p.1, strL p.2, false⟩ h
  unfold recP recV
  rw [if_pos h]
  have e : (chR ⟨strL p.1, strL p.2, false⟩) = Pk.strL (recL (strL p.1) (strL p.2) false) := rfl
  rw [← e]
  omega
set_option maxHeartbeats 1600000 in
set_option maxRecDepth 100000 in
theorem step_shed (N : Lo) (c d mb bc bo bn : Nat) (sv : Value) (S : Dk) (K : Ck) (F : ByteArray) (hF : F.size ≤ 32) (hcom : nameOk (comB F) = true) (hok : ∀ p ∈ kvL K.kv, cfE (strL p.1) (strL p.2) = 0) (hsm : K.kv.length < 16777216) (hlen : S.fs.length < 256) (a : Option Addr) (q : Nat) (W : World) (h : CaskOpen W N c d mb sv S K) (h1 : Holds W bc [.pointer (some ⟨c, 0, none⟩)] 22) (h2 : Holds W bo [.slice a 0 q] 108) (h3 : Holds W bn [.string F] 9) :
    Calls Tryz.prog 129 #[.pointer (some ⟨bc, 0, none⟩), .pointer (some ⟨bo, 0, none⟩), .pointer (some ⟨bn, 0, none⟩)] W fun e w' => e = .returned (.int .i64 (rnE S F (recsP (kvL K.kv)))) ∧ CaskOpen w' N c d mb sv (rnS S F (recsP (kvL K.kv))) K ∧ DUpd N W w' := by
  have h130 : Hid (∀ W', Below W.heap.size W W' → Calls Tryz.prog 130 #[.pointer (some ⟨c, 0, none⟩), .slice a 0 q] W' fun e w' => ∃ a2 n2 q2, e = .returned (.tuple #[.slice a2 n2 q2, .int .i64 0]) ∧ Hid (n2 = (recsP (kvL K.kv)).length ∧ StrsAt w' N a2 (recsP (kvL K.kv)) ∧ Below W.heap.size W w')) := fun W' hb => (squashed_none N c d mb sv S K a q W' (h.below hb) hok hsm).mono fun e w' ⟨a2, n2, q2, e1, e2, e3⟩ => ⟨a2, n2, q2, e1, (row_slice e2).elim (fun _ ⟨_, e⟩ => by injection e), strs_row e2, hb.trans ((e3.below (Nat.le_refl _)).mono hb.size)⟩
  have h27 : Hid (∀ W', Below W.heap.size W W' → Calls Tryz.prog 27 #[.pointer (some ⟨c, 0, none⟩)] W' fun e w' => e = .returned (.pointer (some ⟨d, 0, none⟩)) ∧ Hid (Below W.heap.size W w') ∧ Hid (Below W'.heap.size W' w')) := fun W' hb => (disk_some c d mb sv K W' (h.below hb).holds).mono fun e w' ⟨e1, e2⟩ => ⟨e1, hb.trans (e2.mono hb.size), e2⟩
  have h131 : Hid (∀ W' a2 n2 q2, Below W.heap.size W W' → n2 = (recsP (kvL K.kv)).length → StrsAt W' N a2 (recsP (kvL K.kv)) → Calls Tryz.prog 131 #[.pointer (some ⟨d, 0, none⟩), .string F, .slice a2 n2 q2] W' fun e w' => e = .returned (.int .i64 (rnE S F (recsP (kvL K.kv)))) ∧ Hid (DiskAt w' N d (rnS S F (recsP (kvL K.kv))) ∧ DUpd N W w')) := fun W' a2 n2 q2 hb hn hs => by
    subst hn
    exact (renew_some N d S F (recsP (kvL K.kv)) hcom hF (fun r hr => by
      obtain ⟨p, hp, rfl⟩ := List.mem_map.1 hr
      exact rec_small p (hok p hp)) (by simp [recsP, kvL_len]; omega) a2 q2 W' (h.disk.below hb) hs hlen (fun i hi => Nat.lt_of_lt_of_le (h.lt i hi) hb.size)).mono fun e w' ⟨e1, e2, e3⟩ => ⟨e1, e2, (DUpd.ofBelow hb).trans e3⟩
  have HB : Hid (∀ W', DUpd N W W' → W'.cell? ⟨bc, 0, none⟩ = some (.pointer (some ⟨c, 0, none⟩)) ∧ W'.cell? ⟨bo, 0, none⟩ = some (.slice a 0 q) ∧ W'.cell? ⟨bn, 0, none⟩ = some (.string F)) := fun W' hb => ⟨(h1.dupd hb (by decide) (by decide) (by decide)).at 0 _ rfl, (h2.dupd hb (by decide) (by decide) (by decide)).at 0 _ rfl, (h3.dupd hb (by decide) (by decide) (by decide)).at 0 _ rfl⟩
  have HD : Hid (∀ w', DiskAt w' N d (rnS S F (recsP (kvL K.kv))) ∧ DUpd N W w' → CaskOpen w' N c d mb sv (rnS S F (recsP (kvL K.kv))) K ∧ DUpd N W w') := fun w' hw => ⟨h.dupd hw.2 hw.1, hw.2⟩
  obtain ⟨c1, c2, c3⟩ := HB.out W (DUpd.refl _ _)
  have b0 : Hid (Below W.heap.size W W) := Below.refl _ _
  have b1 : Hid (Below W.heap.size W W.drew) := (Below.refl _ _).drew
  clear h h1 h2 h3 hok
  generalize rnE S F (recsP (kvL K.kv)) = E at *
  generalize rnS S F (recsP (kvL K.kv)) = S2 at *
  go_enter Tryz.func129, Tryz.ntmps129
  go_wp2_with (first
    | (go_at_call 130; refine (h130.out _ b0.out).mono ?_; rintro e w1 ⟨a2, n2, q2, rfl, s1⟩; obtain ⟨k1, k2, k3⟩ := HB.out w1 (DUpd.ofBelow s1.out.2.2)))
  have D1 : Hid (Below W.heap.size W w1.drew) := s1.out.2.2.drew
  have T1 : Hid (StrsAt w1.drew N a2 (recsP (kvL K.kv))) := s1.out.2.1.dupd (DUpd.ofBelow (Below.refl _ w1).drew)
  have n1 : Hid (n2 = (recsP (kvL K.kv)).length) := s1.out.1
  have k4 : w1.drew.cell? ⟨bc, 0, none⟩ = some (.pointer (some ⟨c, 0, none⟩)) := k1
  have k5 : w1.drew.cell? ⟨bn, 0, none⟩ = some (.string F) := k3
  clear s1
  go_region_held3 (fun w' => w'.cell? ⟨bc, 0, none⟩ = some (.pointer (some ⟨c, 0, none⟩)) ∧ w'.cell? ⟨bn, 0, none⟩ = some (.string F)) (go_keep) (first
    | (go_at_call 131; refine (h131.out _ _ _ _ u2.out n1.out T2.out).mono ?_; rintro e w3 ⟨rfl, s3⟩; obtain ⟨x1, x2, x3⟩ := HB.out w3 s3.out.2)
    | (go_at_call 27; refine (h27.out _ D1.out).mono ?_; rintro e w2 ⟨rfl, u2, v2⟩; obtain ⟨y1, y2, y3⟩ := HB.out w2 (DUpd.ofBelow u2.out); have T2 : Hid (StrsAt w2 N a2 (recsP (kvL K.kv))) := T1.out.dupd (DUpd.ofBelow v2.out)))
  all_goals
    go_wp2
    go_ret
    exact ⟨rfl, HD.out _ s3.out⟩
set_option maxHeartbeats 1600000 in
set_option maxRecDepth 100000 in
theorem step_rem (c d mb bc bo : Nat) (sv : Value) (K : Ck) (a : Option Addr) (q : Nat) (W : World) (h : Holds W c (ckV d mb sv K) 28) (h1 : Holds W bc [.pointer (some ⟨c, 0, none⟩)] 22) (h2 : Holds W bo [.slice a 0 q] 108) :
    Calls Tryz.prog 132 #[.pointer (some ⟨bc, 0, none⟩), .pointer (some ⟨bo, 0, none⟩)] W fun e w' => e = .returned (.int .i64 0) ∧ Below W.heap.size W w' := by
  have h27 : Hid (∀ W', Below W.heap.size W W' → Calls Tryz.prog 27 #[.pointer (some ⟨c, 0, none⟩)] W' fun e w' => e = .returned (.pointer (some ⟨d, 0, none⟩)) ∧ Hid (Below W.heap.size W w')) := fun W' hb => (disk_some c d mb sv K W' (h.below hb h.lt)).mono fun e w' ⟨e1, e2⟩ => ⟨e1, hb.trans (e2.mono hb.size)⟩
  have h92 : Hid (∀ W', Below W.heap.size W W' → Calls Tryz.prog 92 #[.pointer (some ⟨d, 0, none⟩), .slice a 0 q] W' fun e w' => e = .returned (.int .i64 0) ∧ Hid (Below W.heap.size W w')) := fun W' hb => (remove_none d a q W').mono fun e w' ⟨e1, e2⟩ => ⟨e1, hb.trans (e2.mono hb.size)⟩
  have HB : Hid (∀ W', Below W.heap.size W W' → W'.cell? ⟨bc, 0, none⟩ = some (.pointer (some ⟨c, 0, none⟩)) ∧ W'.cell? ⟨bo, 0, none⟩ = some (.slice a 0 q)) := fun W' hb => ⟨(h1.below hb h1.lt).at 0 _ rfl, (h2.below hb h2.lt).at 0 _ rfl⟩
  obtain ⟨c1, c2⟩ := HB.out W (Below.refl _ _)
  have D1 : Hid (Below W.heap.size W W.drew) := (Below.refl _ _).drew
  have k4 : W.drew.cell? ⟨bc, 0, none⟩ = some (.pointer (some ⟨c, 0, none⟩)) := c1
  have k5 : W.drew.cell? ⟨bo, 0, none⟩ = some (.slice a 0 q) := c2
  clear h h1 h2
  go_enter Tryz.func132, Tryz.ntmps132
  go_wp2
  go_region_held3 (fun w' => w'.cell? ⟨bc, 0, none⟩ = some (.pointer (some ⟨c, 0, none⟩)) ∧ w'.cell? ⟨bo, 0, none⟩ = some (.slice a 0 q)) (go_keep) (first
    | (go_at_call 92; refine (h92.out _ u2.out).mono ?_; rintro e w3 ⟨rfl, u3⟩; obtain ⟨x1, x2⟩ := HB.out w3 u3.out)
    | (go_at_call 27; refine (h27.out _ D1.out).mono ?_; rintro e w2 ⟨rfl, u2⟩; obtain ⟨y1, y2⟩ := HB.out w2 u2.out))
  all_goals
    go_wp2
    go_ret
    exact ⟨rfl, u3.out⟩
set_option maxRecDepth 100000 in
theorem recs_any (N : Lo) (c d mb : Nat) (sv : Value) (S : Dk) (K : Ck) (R : Int) (hR : R = K.recs) (w : World) (h : CaskOpen w N c d mb sv S K) : Calls Tryz.prog 84 #[.pointer (some ⟨c, 0, none⟩)] w fun e w' => e = .returned (.int .i64 R) ∧ Below w.heap.size w w' := by
  have h25 : Hid (∀ W, Below w.heap.size w W → Calls Tryz.prog 25 #[.pointer (some ⟨c, 0, none⟩)] W fun e w' => e = .returned (.int .i64 (K.recs - (K.kv.length : Int))) ∧ Hid (Below w.heap.size w w')) := fun W hb => (dead_some N c d mb sv S K W (h.below hb)).mono fun e w' ⟨e1, e2⟩ => ⟨e1, hb.trans (e2.mono hb.size)⟩
  have h22 : Hid (∀ W, Below w.heap.size w W → Calls Tryz.prog 22 #[.pointer (some ⟨c, 0, none⟩)] W fun e w' => e = .returned (.int .i64 (K.kv.length : Int)) ∧ Hid (Below w.heap.size w w')) := fun W hb => (len_some N c d mb sv S K W (h.below hb)).mono fun e w' ⟨e1, e2⟩ => ⟨e1, by rw [e2]; exact hb⟩
  have hr := h.fine.recs
  have hs := h.fine.size
  obtain ⟨L, hL⟩ : ∃ L : Nat, K.kv.length = L := ⟨_, rfl⟩
  rw [hL] at h25 h22 hs
  obtain ⟨D, hD⟩ : ∃ D, K.recs - (L : Int) = D := ⟨_, rfl⟩
  rw [hD] at h25
  have hw : IntKind.i64.wrap (D + (L : Int)) = R := by rw [hR, ← hD]; simp [IntKind.wrap, IntKind.bits, IntKind.signed]; omega
  have b0 : Hid (Below w.heap.size w w) := Below.refl _ _
  have b1 : Hid (Below w.heap.size w w.drew) := (Below.refl _ _).drew
  clear h hr hs hR hD hL
  go_enter Tryz.func84, Tryz.ntmps84
  go_wp2_with (first
    | (go_at_call 22; refine (h22.out _ u1.out).mono ?_; rintro e w2 ⟨rfl, u2⟩)
    | (go_at_call 25; refine (h25.out _ b0.out).mono ?_; rintro e w1 ⟨rfl, u1⟩))
  go_ret
  exact ⟨rfl, u2.out⟩
end Go.Proofs.YtfmmholkeadejaaGreatDoor

/- steps (86) of a cask that has one segment. -/
namespace Go.Proofs.YtfmmholkeadejaaGreatDoor
open Go.RowKit

set_option maxHeartbeats 3200000 in
set_option maxRecDepth 100000 in
theorem steps_one (N : Lo) (c d mb : Nat) (sv : Value) (S : Dk) (K : Ck) (n : Nat) (h1 : 1 ≤ n) (h9 : n ≤ 999999) (sb so q : Nat) (w : World) (h : CaskOpen w N c d mb sv S K) (hN : N ≤ w.heap.size) (hT : Tab N w) (hs : w.cell? ⟨sb, so, none⟩ = some (.int .i64 (n : Int))) (hsb : sb < w.heap.size) :
    Calls Tryz.prog 86 #[.pointer (some ⟨c, 0, none⟩), .slice (some ⟨sb, so, none⟩) 1 q] w fun e w' => ∃ g bc bo bn a q', e = .returned (.slice (some ⟨g, 0, none⟩) 4 4) ∧ Holds w' g [.func (.func 20) #[.pointer (some ⟨c, 0, none⟩)] #[], .func (.func 129) #[] #[.pointer (some ⟨bc, 0, none⟩), .pointer (some ⟨bo, 0, none⟩), .pointer (some ⟨bn, 0, none⟩)], .func (.func 132) #[] #[.pointer (some ⟨bc, 0, none⟩), .pointer (some ⟨bo, 0, none⟩)], .func (.func 21) #[.pointer (some ⟨c, 0, none⟩)] #[]] 37 ∧ Holds w' bc [.pointer (some ⟨c, 0, none⟩)] 22 ∧ Holds w' bo [.slice a 0 q'] 108 ∧ Holds w' bn [.string (fileB K.nm n)] 9 ∧ Below w.heap.size w w' := by
  have hmf : ∀ (fn : Fn) (first cap : Array Value) (w : World), (Instr.makeFunc fn first cap).run Tryz.prog w = .ok (.func fn first cap) w := fun _ _ _ _ => rfl
  have h26 : Hid (∀ W, Below w.heap.size w W → Calls Tryz.prog 26 #[.pointer (some ⟨c, 0, none⟩)] W fun e w' => e = .returned (.string K.nm) ∧ Hid (Below w.heap.size w w' ∧ Below W.heap.size W w')) := fun W hb => (name_some c d mb sv K W (h.below hb).holds).mono fun e w' ⟨e1, e2⟩ => ⟨e1, hb.trans (e2.mono hb.size), e2⟩
  have h36 : Hid (∀ W, Below w.heap.size w W → Calls Tryz.prog 36 #[.string K.nm, .int .i64 (n : Int)] W fun e w' => e = .returned (.string (fileB K.nm n)) ∧ Hid (Below w.heap.size w w' ∧ Below W.heap.size W w')) := fun W hb => (file_ok N K.nm h.fine.nm n h1 h9 W (Nat.le_trans hN hb.size) (hT.on (hb.mono hN))).mono fun e w' ⟨e1, e2⟩ => ⟨e1, hb.trans (e2.mono hb.size), e2⟩
  have hsc : Hid (∀ W, Below w.heap.size w W → W.cell? ⟨sb, so, none⟩ = some (.int .i64 (n : Int))) := fun W hb => (hb.cell (p := ⟨sb, so, none⟩) hsb).trans hs
  obtain ⟨i9, hi9, hz0, hz1, hz2⟩ := info_parts info9s
  generalize fileB K.nm n = F at *
  obtain ⟨B, hB⟩ : ∃ B, w.heap.size = B := ⟨_, rfl⟩
  have b0 : Hid (∀ o : Obj, Below w.heap.size w (w.alloc o)) := fun o => (Below.refl _ w).alloc (Nat.le_refl _) o
  clear h hT hN hs
  go_enter Tryz.func86, Tryz.ntmps86
  go_wp2_with fail
  have hBx : Hid (Holds (w.alloc (.cells #[.pointer (some ⟨c, 0, none⟩)] 22)) B [.pointer (some ⟨c, 0, none⟩)] 22) := hB ▸ holds_new w [.pointer (some ⟨c, 0, none⟩)] 22
  go_loopw [5, 12] (fun v p wr => (v = .slice none 0 0 ∧ p = .int .i64 0 ∧ wr = w.alloc (.cells #[.pointer (some ⟨c, 0, none⟩)] 22)) ∨ (p = .int .i64 1 ∧ ∃ g q', v = .slice (some ⟨g, 0, none⟩) 1 q' ∧ Hid (1 ≤ q' ∧ Holds wr B [.pointer (some ⟨c, 0, none⟩)] 22 ∧ (∃ tl, Holds wr g (.string F :: tl) 9) ∧ Below w.heap.size w wr))) (fun _ p _ => 1 - (intOf p).toNat)
  case atStart => exact .inl ⟨rfl, rfl, rfl⟩
  case round =>
    rcases hrel with ⟨rfl, rfl, rfl⟩ | ⟨rfl, g, q', rfl, hJ⟩
    · have c0 := hBx.out.at 0 _ rfl
      have s0 := hsc.out _ (b0.out (.cells #[.pointer (some ⟨c, 0, none⟩)] 22))
      go_wp2_with (first
        | (at_builtin; go_loud (refine wpList_append_src rfl _ _ 108 rfl w.heap.size 9 i9 (.string ⟨#[]⟩) 1 16 Tryz.underlying108 hi9 hz0 hz1 hz2 rfl (by decide) _ _ _ (World.ownsRow_nil _ _ _ _) rfl [.string F] (some ⟨w2.heap.size, 0, none⟩) 1 1 rfl rfl (fun _ => ⟨_, rfl, new_onek w2 F⟩) (by simp [Value.oneCell']) (by unfold maxLen; omega) (by omega) (by have := u2.out.1.size; simp; omega) ?_; intro v4 w4 own4 grow4 loc4; clear loc4))
        | (go_at_call 36; refine (h36.out _ u1.out.1).mono ?_; rintro e w2 ⟨rfl, u2⟩)
        | (go_at_call 26; refine (h26.out _ (b0.out _)).mono ?_; rintro e w1 ⟨rfl, u1⟩))
      have H2 : Holds w2 B [.pointer (some ⟨c, 0, none⟩)] 22 := cask_holds_box (cask_holds_box hBx.out u1.out.2) u2.out.2
      have H4 : Holds w4 B [.pointer (some ⟨c, 0, none⟩)] 22 := grown_holds (World.ownsRow_nil _ w.heap.size _ _) grow4 (H2.alloc _) (by decide)
      have B4 : Below w.heap.size w w4 := below_grown (u2.out.1.alloc u2.out.1.size _) grow4 (by have := u2.out.1.size; simp; omega) (World.ownsRow_nil _ _ 9 1)
      rcases own4.2 with ⟨_, h0⟩ | ⟨g, cap, cur, rfl, hb, hh, hl1, hl2, hl3, hl4⟩
      · cases h0
      · refine ⟨.inr ⟨rfl, g, cap, rfl, hl1, H4, ?_, B4⟩, by simp⟩
        have hH : Holds w4 g ([.string F] ++ cur.toList.drop 1) 9 := by
          unfold Holds
          rw [show [Value.string F] = cur.toList.take 1 from hl4.symm, List.take_append_drop, Array.toArray_toList]
          exact hh
        exact ⟨_, hH⟩
    · have hq : Hid (1 ≤ q') := hJ.out.1
      have q1 : (1 : Int) ≤ (q' : Int) := by have := hq.out; omega
      have x0 := hJ.out.2.1.at 0 _ rfl
      obtain ⟨tl, HG⟩ := hJ.out.2.2.1
      have HG0 : Hid (Holds wr g (.string F :: tl) 9) := HG
      obtain ⟨n1, hn1⟩ : ∃ n1, wr.heap.size = n1 := ⟨_, rfl⟩
      have hlt : g < n1 := by have := HG.lt; omega
      have q2 : (0 : Int) ≤ (q' : Int) := by omega
      have wz : IntKind.i64.wrap 0 = 0 := by decide
      have y0 : (wr).drew.cell? ⟨g, 0, none⟩ = some (.string F) := (HG).at 0 _ rfl
      have y1 : (wr.alloc (.cells #[.string ⟨#[]⟩] 9)).drew.cell? ⟨g, 0, none⟩ = some (.string F) := (HG.alloc (.cells #[.string ⟨#[]⟩] 9)).at 0 _ rfl
      have y2 : (wr.alloc (.cells #[.slice none 0 0] 108)).drew.cell? ⟨g, 0, none⟩ = some (.string F) := (HG.alloc (.cells #[.slice none 0 0] 108)).at 0 _ rfl
      have y3 : (wr.alloc (.cells #[.slice (some ⟨g, 0, none⟩) 0 q'] 108)).drew.cell? ⟨g, 0, none⟩ = some (.string F) := (HG.alloc (.cells #[.slice (some ⟨g, 0, none⟩) 0 q'] 108)).at 0 _ rfl
      have y4 : ((wr.alloc (.cells #[.string ⟨#[]⟩] 9)).alloc (.cells #[.slice none 0 0] 108)).drew.cell? ⟨g, 0, none⟩ = some (.string F) := ((HG.alloc (.cells #[.string ⟨#[]⟩] 9)).alloc (.cells #[.slice none 0 0] 108)).at 0 _ rfl
      have y5 : ((wr.alloc (.cells #[.string ⟨#[]⟩] 9)).alloc (.cells #[.slice (some ⟨g, 0, none⟩) 0 q'] 108)).drew.cell? ⟨g, 0, none⟩ = some (.string F) := ((HG.alloc (.cells #[.string ⟨#[]⟩] 9)).alloc (.cells #[.slice (some ⟨g, 0, none⟩) 0 q'] 108)).at 0 _ rfl
      have y6 : ((wr.alloc (.cells #[.slice none 0 0] 108)).alloc (.cells #[.string ⟨#[]⟩] 9)).drew.cell? ⟨g, 0, none⟩ = some (.string F) := ((HG.alloc (.cells #[.slice none 0 0] 108)).alloc (.cells #[.string ⟨#[]⟩] 9)).at 0 _ rfl
      have y7 : ((wr.alloc (.cells #[.slice (some ⟨g, 0, none⟩) 0 q'] 108)).alloc (.cells #[.string ⟨#[]⟩] 9)).drew.cell? ⟨g, 0, none⟩ = some (.string F) := ((HG.alloc (.cells #[.slice (some ⟨g, 0, none⟩) 0 q'] 108)).alloc (.cells #[.string ⟨#[]⟩] 9)).at 0 _ rfl
      clear HG
      go_wp2
      go_region
      · have Xa : Holds ((wr.alloc (.cells #[.slice (some ⟨g, 0, none⟩) 0 q'] 108)).alloc (.cells #[.string F] 9)).drew n1 [.slice (some ⟨g, 0, none⟩) 0 q'] 108 := ((hn1 ▸ holds_new wr [.slice (some ⟨g, 0, none⟩) 0 q'] 108 : Holds (wr.alloc (.cells #[.slice (some ⟨g, 0, none⟩) 0 q'] 108)) n1 [.slice (some ⟨g, 0, none⟩) 0 q'] 108).alloc (.cells #[.string F] 9))
        have Xb : Holds ((wr.alloc (.cells #[.slice (some ⟨g, 0, none⟩) 0 q'] 108)).alloc (.cells #[.string F] 9)).drew (n1 + 1) [.string F] 9 := (show Holds ((wr.alloc (.cells #[.slice (some ⟨g, 0, none⟩) 0 q'] 108)).alloc (.cells #[.string F] 9)) (n1 + 1) [.string F] 9 by have := holds_new (wr.alloc (.cells #[.slice (some ⟨g, 0, none⟩) 0 q'] 108)) [.string F] 9; rw [World.size_alloc, hn1] at this; exact this)
        have Xc : Holds ((wr.alloc (.cells #[.slice (some ⟨g, 0, none⟩) 0 q'] 108)).alloc (.cells #[.string F] 9)).drew B [.pointer (some ⟨c, 0, none⟩)] 22 := (hJ.out.2.1.alloc (.cells #[.slice (some ⟨g, 0, none⟩) 0 q'] 108)).alloc (.cells #[.string F] 9)
        have Xw : Below w.heap.size w ((wr.alloc (.cells #[.slice (some ⟨g, 0, none⟩) 0 q'] 108)).alloc (.cells #[.string F] 9)).drew := ((hJ.out.2.2.2.alloc hJ.out.2.2.2.size _).alloc (by have := hJ.out.2.2.2.size; simp; omega) _).drew
        clear y0 y1 y2 y3 y4 y5 y6 y7 x0
        generalize ((wr.alloc (.cells #[.slice (some ⟨g, 0, none⟩) 0 q'] 108)).alloc (.cells #[.string F] 9)).drew = V at *
        have z0 := Xc.at 0 _ rfl
        have Xa : Hid _ := Xa
        have Xb : Hid _ := Xb
        have Xc : Hid _ := Xc
        have Xw : Hid _ := Xw
        obtain ⟨v, hv⟩ : ∃ v, V.heap.size = v := ⟨_, rfl⟩
        have z1 : V.drew.cell? ⟨B, 0, none⟩ = some (.pointer (some ⟨c, 0, none⟩)) := z0
        clear hn1 hJ HG0
        go_wp2
        go_ret
        exact ⟨v, B, n1, (n1 + 1), _, _, rfl, hv ▸ holds_new V [.func (.func 20) #[.pointer (some ⟨c, 0, none⟩)] #[], .func (.func 129) #[] #[.pointer (some ⟨B, 0, none⟩), .pointer (some ⟨n1, 0, none⟩), .pointer (some ⟨(n1 + 1), 0, none⟩)], .func (.func 132) #[] #[.pointer (some ⟨B, 0, none⟩), .pointer (some ⟨n1, 0, none⟩)], .func (.func 21) #[.pointer (some ⟨c, 0, none⟩)] #[]] 37, Holds.alloc Xc.out _, Holds.alloc Xa.out _, Holds.alloc Xb.out _, Xw.out.alloc Xw.out.size _⟩
      · have Xa : Holds ((wr.alloc (.cells #[.string F] 9)).alloc (.cells #[.slice (some ⟨g, 0, none⟩) 0 q'] 108)).drew n1 [.string F] 9 := ((hn1 ▸ holds_new wr [.string F] 9 : Holds (wr.alloc (.cells #[.string F] 9)) n1 [.string F] 9).alloc (.cells #[.slice (some ⟨g, 0, none⟩) 0 q'] 108))
        have Xb : Holds ((wr.alloc (.cells #[.string F] 9)).alloc (.cells #[.slice (some ⟨g, 0, none⟩) 0 q'] 108)).drew (n1 + 1) [.slice (some ⟨g, 0, none⟩) 0 q'] 108 := (show Holds ((wr.alloc (.cells #[.string F] 9)).alloc (.cells #[.slice (some ⟨g, 0, none⟩) 0 q'] 108)) (n1 + 1) [.slice (some ⟨g, 0, none⟩) 0 q'] 108 by have := holds_new (wr.alloc (.cells #[.string F] 9)) [.slice (some ⟨g, 0, none⟩) 0 q'] 108; rw [World.size_alloc, hn1] at this; exact this)
        have Xc : Holds ((wr.alloc (.cells #[.string F] 9)).alloc (.cells #[.slice (some ⟨g, 0, none⟩) 0 q'] 108)).drew B [.pointer (some ⟨c, 0, none⟩)] 22 := (hJ.out.2.1.alloc (.cells #[.string F] 9)).alloc (.cells #[.slice (some ⟨g, 0, none⟩) 0 q'] 108)
        have Xw : Below w.heap.size w ((wr.alloc (.cells #[.string F] 9)).alloc (.cells #[.slice (some ⟨g, 0, none⟩) 0 q'] 108)).drew := ((hJ.out.2.2.2.alloc hJ.out.2.2.2.size _).alloc (by have := hJ.out.2.2.2.size; simp; omega) _).drew
        clear y0 y1 y2 y3 y4 y5 y6 y7 x0
        generalize ((wr.alloc (.cells #[.string F] 9)).alloc (.cells #[.slice (some ⟨g, 0, none⟩) 0 q'] 108)).drew = V at *
        have z0 := Xc.at 0 _ rfl
        have Xa : Hid _ := Xa
        have Xb : Hid _ := Xb
        have Xc : Hid _ := Xc
        have Xw : Hid _ := Xw
        obtain ⟨v, hv⟩ : ∃ v, V.heap.size = v := ⟨_, rfl⟩
        have z1 : V.drew.cell? ⟨B, 0, none⟩ = some (.pointer (some ⟨c, 0, none⟩)) := z0
        clear hn1 hJ HG0
        go_wp2
        go_ret
        exact ⟨v, B, (n1 + 1), n1, _, _, rfl, hv ▸ holds_new V [.func (.func 20) #[.pointer (some ⟨c, 0, none⟩)] #[], .func (.func 129) #[] #[.pointer (some ⟨B, 0, none⟩), .pointer (some ⟨(n1 + 1), 0, none⟩), .pointer (some ⟨n1, 0, none⟩)], .func (.func 132) #[] #[.pointer (some ⟨B, 0, none⟩), .pointer (some ⟨(n1 + 1), 0, none⟩)], .func (.func 21) #[.pointer (some ⟨c, 0, none⟩)] #[]] 37, Holds.alloc Xc.out _, Holds.alloc Xb.out _, Holds.alloc Xa.out _, Xw.out.alloc Xw.out.size _⟩
end Go.Proofs.YtfmmholkeadejaaGreatDoor
