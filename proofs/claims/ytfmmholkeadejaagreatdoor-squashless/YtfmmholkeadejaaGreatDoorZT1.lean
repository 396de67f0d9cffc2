/- SqMany, SqSpoken, SqSort, SqShedA, SqSteps2, SqStepsA, SqAllS. -/
import Derived.Test.YtfmmholkeadejaaGreatDoorZD3
import Derived.Test.YtfmmholkeadejaaGreatDoorZS2
import Derived.Test.YtfmmholkeadejaaGreatDoorZCkFull
import Derived.Test.YtfmmholkeadejaaGreatDoorZC3
import Derived.Test.YtfmmholkeadejaaGreatDoorZD4
import Derived.Test.YtfmmholkeadejaaGreatDoorZC1
import Derived.Test.YtfmmholkeadejaaGreatDoorZS3
/- Remove of many names. -/
namespace Go.Proofs.YtfmmholkeadejaaGreatDoor
open Go.RowKit Go.Maps Go.WideMaps

/-- What Remove of these names comes to. -/
def rmAll : Dk → List ByteArray → Int × Dk
  | S, [] => (0, S)
  | S, s :: r => if foundE S s = 0 then (if stepE S = 0 then rmAll (dropS (stepS S) s.data.toList) r else (stepE S, stepS S)) else (foundE S s, S)
set_option maxHeartbeats 0 in
set_option maxRecDepth 100000 in
theorem each_rem_all (N : Lo) (d : Nat) (S : Dk) (l : List ByteArray) (hs : ∀ s ∈ l, s.size < 9223372036854775808) (a : Option Addr) (c : Nat) (hlen : l.length ≤ 9223372036854775807) (bx : Nat) (w : World) (h : DiskAt w N d S) (ha : StrsAt w N a l) (hx : Holds w bx [.pointer (some ⟨d, 0, none⟩)] 43) :
    Calls Tryz.prog 137 #[.pointer (some ⟨d, 0, none⟩), .slice a l.length c, .func (.func 138) #[] #[.pointer (some ⟨bx, 0, none⟩)]] w fun e w' => e = .returned (.int .i64 (rmAll S l).1) ∧ DiskAt w' N d (rmAll S l).2 ∧ DUpd N w w' := by
  have HA : Hid (∀ W, DUpd N w W → StrsAt W N a l) := fun W hW => ha.dupd hW
  have HX : Hid (∀ W, DUpd N w W → Holds W bx [.pointer (some ⟨d, 0, none⟩)] 43) := fun W hW => hx.dupd hW (by decide) (by decide) (by decide)
  have hs : Hid (∀ s ∈ l, s.size < 9223372036854775808) := hs
  have HD : Hid (DiskAt w N d S) := h
  obtain ⟨LN, hLN0⟩ : ∃ LN, l.length = LN := ⟨_, rfl⟩
  have hLN : Hid (l.length = LN) := hLN0
  rw [hLN0] at hlen ⊢
  obtain ⟨RE, hRE0⟩ : ∃ RE, (rmAll S l).1 = RE := ⟨_, rfl⟩
  obtain ⟨RS, hRS0⟩ : ∃ RS, (rmAll S l).2 = RS := ⟨_, rfl⟩
  have hR : Hid (rmAll S l = (RE, RS)) := by rw [← hRE0, ← hRS0]; exact rfl
  rw [hRE0, hRS0]
  clear h ha hx hLN0 hRE0 hRS0
  go_enter Tryz.func137, Tryz.ntmps137
  go_wp2_with fail
  go_loopw [15] (fun c wr => ∃ i : Nat, i ≤ LN ∧ c = .int .i64 (i : Int) ∧ ∃ S', Hid (rmAll S' (l.drop i) = (RE, RS) ∧ DiskAt wr N d S' ∧ DUpd N w wr)) (fun c _ => LN - (intOf c).toNat)
  case atStart => exact ⟨0, Nat.zero_le _, rfl, S, hR.out, HD.out, DUpd.refl N w⟩
  case round =>
    obtain ⟨i, hi, rfl, S', hI⟩ := hrel
    rcases Nat.lt_or_ge i LN with hlt | hge
    · have hlen' := hLN.out
      obtain ⟨s, hsi⟩ : ∃ s, l[i]? = some s := ⟨_, List.getElem?_eq_getElem (by omega)⟩
      obtain ⟨q1, q2, q3⟩ := hI.out
      have hsz := hs.out s (List.mem_of_getElem? hsi)
      have hdrop : l.drop i = s :: l.drop (i + 1) := by
        obtain ⟨hi', e⟩ := List.getElem?_eq_some_iff.1 hsi
        rw [List.drop_eq_getElem_cons hi', e]
      rw [hdrop, rmAll] at q1
      obtain ⟨g, o, rfl, hc⟩ : ∃ g o, a = some ⟨g, o, none⟩ ∧ wr.cell? ⟨g, o + i, none⟩ = some (.string s) := by
        rcases HA.out wr q3 with h0 | ⟨g, o, e, _, _, hc⟩
        · exfalso; simp at h0; rw [h0] at hsi; simp at hsi
        · exact ⟨g, o, e, hc i s hsi⟩
      have hfo : Hid (Calls Tryz.prog 152 #[.pointer (some ⟨d, 0, none⟩), .string s] wr fun e w' => e = .returned (.int .i64 (foundE S' s)) ∧ Hid (Below wr.heap.size wr w')) := found_some N d S' s hsz wr q2
      have g1 : (i : Int) < (LN : Int) := by omega
      have g2 : (0 : Int) ≤ (i : Int) := by omega
      have g4 : IntKind.i64.wrap ((i : Int) + 1) = (i : Int) + 1 := by simp [IntKind.wrap, IntKind.bits, IntKind.signed]; omega
      by_cases h0 : foundE S' s = 0
      · rw [if_pos h0] at q1
        obtain ⟨_, hok, f, hf⟩ := found_zero h0
        rw [h0] at hfo
        have hst : Hid (∀ W, Hid (Below wr.heap.size wr W) → Calls Tryz.prog 81 #[.pointer (some ⟨d, 0, none⟩)] W fun e w' => e = .returned (.int .i64 (stepE S')) ∧ Hid (DiskAt w' N d (stepS S') ∧ DUpd N w w')) := fun W hB => (step_some N d S' W (q2.below hB.out)).mono fun e w' ⟨e1, e2, e3⟩ => ⟨e1, e2, (q3.trans (DUpd.ofBelow hB.out)).trans e3⟩
        by_cases h1 : stepE S' = 0
        · rw [if_pos h1] at q1
          rw [h1] at hst
          have hdo : Hid (∀ W, Hid (DiskAt W N d (stepS S') ∧ DUpd N w W) → Calls Tryz.prog 138 #[.string s, .pointer (some ⟨bx, 0, none⟩)] W fun e w' => e = .returned (.tuple #[]) ∧ Hid (rmAll (dropS (stepS S') s.data.toList) (l.drop (i + 1)) = (RE, RS) ∧ DiskAt w' N d (dropS (stepS S') s.data.toList) ∧ DUpd N w w')) := fun W hW => (remove_do N d (stepS S') s (nameOk_le hok) f (by rw [stepS_fs]; exact hf) bx W hW.out.1 (HX.out W hW.out.2)).mono fun e w' ⟨e1, e2, e3⟩ => ⟨e1, q1, e2, hW.out.2.trans e3⟩
          clear q1 q2 q3 hI hsi hdrop hsz h0 h1 hok hf hlen'
          go_wp2_with (first
            | (go_at_call 152; refine hfo.out.mono ?_; rintro e w2 ⟨rfl, b2⟩)
            | (go_at_call 81; refine (hst.out _ b2).mono ?_; rintro e w3 ⟨rfl, d3⟩)
            | (go_at_call 138; refine (hdo.out _ d3).mono ?_; rintro e w4 ⟨rfl, d4⟩))
          go_roundw
          case rel => exact ⟨i + 1, by omega, by simp, _, d4⟩
          case measure => simp; omega
        · rw [if_neg h1] at q1
          have hne : ((stepE S') == 0) = false := by simpa using h1
          obtain ⟨qa, qb⟩ := Prod.mk.inj q1
          rw [qa] at hne
          rw [qa, qb] at hst
          clear q1 q2 q3 hI hsi hdrop hsz h0 h1 hok hf hlen' hR qa qb
          go_wp2_with (first
            | (go_at_call 152; refine hfo.out.mono ?_; rintro e w2 ⟨rfl, b2⟩)
            | (go_at_call 81; refine (hst.out _ b2).mono ?_; rintro e w3 ⟨rfl, d3⟩))
          go_ret
          exact ⟨rfl, d3.out.1, d3.out.2⟩
      · rw [if_neg h0] at q1
        have hne : ((foundE S' s) == 0) = false := by simpa using h0
        obtain ⟨qa, qb⟩ := Prod.mk.inj q1
        rw [qa] at hne
        rw [qa] at hfo
        have hfin : Hid (∀ W, Below wr.heap.size wr W → DiskAt W N d RS ∧ DUpd N w W) := fun W hB => ⟨by rw [← qb]; exact q2.below hB, q3.trans (DUpd.ofBelow hB)⟩
        clear q1 q2 q3 hI hsi hdrop hsz h0 hlen' hR qa qb
        go_wp2_with (go_at_call 152; refine hfo.out.mono ?_; rintro e w2 ⟨rfl, b2⟩)
        go_ret
        exact ⟨rfl, hfin.out _ b2.out⟩
    · obtain ⟨q1, q2, q3⟩ := hI.out
      have hlen' := hLN.out
      rw [List.drop_of_length_le (by omega), rmAll] at q1
      obtain ⟨rfl, rfl⟩ := Prod.mk.inj q1
      clear hR hlen' hI
      have hfin : Hid (DiskAt wr N d S' ∧ DUpd N w wr) := ⟨q2, q3⟩
      clear q1 q2 q3
      obtain rfl : i = LN := by omega
      go_wp2
      go_ret
      exact ⟨rfl, hfin.out⟩
theorem remove_all (N : Lo) (d : Nat) (S : Dk) (l : List ByteArray) (hs : ∀ s ∈ l, s.size < 9223372036854775808) (a : Option Addr) (c : Nat) (hlen : l.length ≤ 9223372036854775807) (w : World) (h : DiskAt w N d S) (ha : StrsAt w N a l) :
    Calls Tryz.prog 92 #[.pointer (some ⟨d, 0, none⟩), .slice a l.length c] w fun e w' => e = .returned (.int .i64 (rmAll S l).1) ∧ DiskAt w' N d (rmAll S l).2 ∧ DUpd N w w' := by
  have hmf : ∀ (fn : Fn) (first cap : Array Value) (w : World), (Instr.makeFunc fn first cap).run Tryz.prog w = .ok (.func fn first cap) w := fun _ _ _ _ => rfl
  have hu : DUpd N w (w.alloc (.cells #[.pointer (some ⟨d, 0, none⟩)] 43)) := (DUpd.refl N w).alloc _
  have he : Hid (Calls Tryz.prog 137 #[.pointer (some ⟨d, 0, none⟩), .slice a l.length c, .func (.func 138) #[] #[.pointer (some ⟨w.heap.size, 0, none⟩)]] (w.alloc (.cells #[.pointer (some ⟨d, 0, none⟩)] 43)) fun e w' => e = .returned (.int .i64 (rmAll S l).1) ∧ DiskAt w' N d (rmAll S l).2 ∧ DUpd N (w.alloc (.cells #[.pointer (some ⟨d, 0, none⟩)] 43)) w') :=
    each_rem_all N d S l hs a c hlen w.heap.size _ (h.alloc _) (ha.dupd hu) (holds_new w [.pointer (some ⟨d, 0, none⟩)] 43)
  have HU : Hid (DUpd N w (w.alloc (.cells #[.pointer (some ⟨d, 0, none⟩)] 43))) := hu
  generalize rmAll S l = R at *
  generalize l.length = LN at *
  clear h ha hu
  go_enter Tryz.func92, Tryz.ntmps92
  go_wp2_with (go_at_call 137; refine he.out.mono ?_; rintro e w2 ⟨rfl, d2, u2⟩)
  go_ret
  exact ⟨rfl, d2, HU.out.trans u2⟩
end Go.Proofs.YtfmmholkeadejaaGreatDoor

/- spoken (167) of several files: the keys of their records. -/
namespace Go.Proofs.YtfmmholkeadejaaGreatDoor
open Go.RowKit

/-- The keys, record by record. -/
def keysOf (l : List Sg) : List ByteArray := (l.flatMap Sg.cs).map Ch.k
/-- A file that can be read and parsed. -/
structure SpOk (S : Dk) (nm : ByteArray) (x : Sg) : Prop where
  found : foundE S (fileB nm x.n) = 0
  text : (readV S (fileB nm x.n)).data.toList = x.cs.flatMap chB ++ x.tl
  oks : ∀ c ∈ x.cs, c.Ok
  tail : x.tl ≠ [] → Pk.uE (Pk.strL x.tl) ≠ 0
  size : (readV S (fileB nm x.n)).size ≤ 16777216
  name : (fileB nm x.n).size < 9223372036854775808
theorem keys_step {l : List Sg} {i : Nat} {x : Sg} (h : l[i]? = some x) : keysOf (l.take (i + 1)) = keysOf (l.take i) ++ x.cs.map Ch.k := by
  unfold keysOf
  rw [List.take_add_one, h]
  simp
theorem keys_take {cs : List Ch} {j : Nat} {c : Ch} (h : cs[j]? = some c) : (cs.take (j + 1)).map Ch.k = (cs.take j).map Ch.k ++ [c.k] := by
  rw [List.take_add_one, h]
  simp
theorem keys_le (l : List Sg) (i : Nat) : (keysOf (l.take i)).length ≤ (l.flatMap Sg.cs).length := by
  unfold keysOf
  rw [List.length_map]
  conv => rhs; rw [← List.take_append_drop i l, List.flatMap_append, List.length_append]
  omega
/-- The keys behind Sort and Compact. -/
def SpAt (W : World) (B : Nat) (ka : Option Addr) (ks : List ByteArray) : Prop := ks = [] ∨ ∃ g o, ka = some ⟨g, o, none⟩ ∧ B ≤ g ∧ g < W.heap.size ∧ ∀ i x, ks[i]? = some x → W.cell? ⟨g, o + i, none⟩ = some (.string x)
set_option maxHeartbeats 0 in
set_option maxRecDepth 100000 in
theorem spoken_some (N : Lo) (d : Nat) (S : Dk) (nm : ByteArray) (l : List Sg) (hf : ∀ x ∈ l, SpOk S nm x) (hm : (l.flatMap Sg.cs).length ≤ 16777215) (hlen : l.length ≤ 16777215) (a : Option Addr) (q : Nat) (w : World) (h : DiskAt w N d S)
    (ha : ∀ i x, l[i]? = some x → ∃ b o, a = some ⟨b, o, none⟩ ∧ b < w.heap.size ∧ w.cell? ⟨b, o + i, none⟩ = some (.string (fileB nm x.n))) (R : List ByteArray)
    (hend : ∀ (W : World) v, W.ownsRow w.heap.size 9 1 v (keysOf l).length (strV (keysOf l)) → Below w.heap.size w W → Calls Tryz.prog 159 #[v] W fun e w' => e = .returned (.tuple #[]) ∧ Calls Tryz.prog 201 #[v] w' fun e w'' => ∃ ka n2 q2, e = .returned (.slice ka n2 q2) ∧ n2 = R.length ∧ SpAt w'' w.heap.size ka R ∧ Below w.heap.size w w'') :
    Calls Tryz.prog 167 #[.pointer (some ⟨d, 0, none⟩), .slice a l.length q] w fun e w' => ∃ ka n2 q2, e = .returned (.tuple #[.slice ka n2 q2, .int .i64 0]) ∧ n2 = R.length ∧ SpAt w' w.heap.size ka R ∧ Below w.heap.size w w' := by
  obtain ⟨B, hB⟩ : ∃ B, w.heap.size = B := ⟨_, rfl⟩
  have hBh : Hid (w.heap.size = B) := hB
  have HD : Hid (∀ W, Below B w W → DiskAt W N d S) := fun W hW => h.below (hB ▸ hW : Below w.heap.size w W)
  have HA : Hid (∀ W, Below B w W → ∀ i x, l[i]? = some x → ∃ b o, a = some ⟨b, o, none⟩ ∧ W.cell? ⟨b, o + i, none⟩ = some (.string (fileB nm x.n))) := fun W hW i x hx => by
    obtain ⟨b, o, e1, e2, e3⟩ := ha i x hx
    exact ⟨b, o, e1, (hW.cell (p := ⟨b, o + i, none⟩) (by rw [← hB]; exact e2)).trans e3⟩
  have hend' : Hid (∀ (W : World) (kn : Nat) (ka : Option Addr) kq, W.ownsRow B 9 1 (.slice ka kn kq) (keysOf l).length (strV (keysOf l)) → Below B w W → Calls Tryz.prog 159 #[.slice ka kn kq] W fun e w' => e = .returned (.tuple #[]) ∧ Hid (Calls Tryz.prog 201 #[.slice ka kn kq] w' fun e w'' => ∃ ka n2 q2, e = .returned (.slice ka n2 q2) ∧ Hid (n2 = R.length ∧ SpAt w'' B ka R ∧ Below B w w''))) := fun W kn ka kq h1 h2 => by
    rw [← hB] at h1 h2 ⊢
    exact hend W _ h1 h2
  have hf : Hid (∀ x ∈ l, SpOk S nm x) := hf
  have hm : Hid ((l.flatMap Sg.cs).length ≤ 16777215) := hm
  obtain ⟨i9, hi9, hz0, hz1, hz2⟩ := info_parts info9s
  obtain ⟨LN, hLN0⟩ : ∃ LN, l.length = LN := ⟨_, rfl⟩
  have hLN : Hid (l.length = LN) := hLN0
  rw [hLN0] at hlen ⊢
  rw [hB]
  have hb0 : Hid (Below B w w) := Below.refl _ _
  clear h ha hend hLN0 hB
  go_enter Tryz.func167, Tryz.ntmps167
  go_wp2_with fail
  go_loopw [6, 18] (fun v p wr => ∃ i : Nat, i ≤ LN ∧ p = .int .i64 (i : Int) ∧ ∃ ka n kq, v = .slice ka n kq ∧ Hid (n = (keysOf (l.take i)).length ∧ wr.ownsRow B 9 1 (.slice ka n kq) n (strV (keysOf (l.take i))) ∧ Below B w wr)) (fun _ p _ => LN - (intOf p).toNat)
  case atStart => exact ⟨0, Nat.zero_le _, rfl, none, 0, 0, rfl, rfl, World.ownsRow_nil _ _ _ _, hb0.out⟩
  case round =>
    obtain ⟨i, hi, rfl, ka, n, kq, rfl, hI⟩ := hrel
    rcases Nat.lt_or_ge i LN with hlt | hge
    · have hlen' := hLN.out
      obtain ⟨x, hx⟩ : ∃ x, l[i]? = some x := ⟨_, List.getElem?_eq_getElem (by omega)⟩
      obtain ⟨b, o, rfl, k0⟩ := HA.out wr hI.out.2.2 i x hx
      have hS := hf.out x (List.mem_of_getElem? hx)
      obtain ⟨F, hF⟩ : ∃ F, fileB nm x.n = F := ⟨_, rfl⟩
      obtain ⟨s, hs⟩ : ∃ s, readV S (fileB nm x.n) = s := ⟨_, rfl⟩
      obtain ⟨M, hM⟩ : ∃ M, x.cs.length = M := ⟨_, rfl⟩
      have h109 : Hid (Calls Tryz.prog 109 #[.pointer (some ⟨d, 0, none⟩), .string F] wr fun e w' => e = .returned (.tuple #[.string s, .int .i64 0]) ∧ Hid (Below wr.heap.size wr w')) := by
        have := read_some N d S (fileB nm x.n) hS.name wr (HD.out wr hI.out.2.2)
        rw [hS.found, hs, hF] at this
        exact this
      have h200 : Hid (∀ W, Hid (Below wr.heap.size wr W) → Calls Tryz.prog 200 #[.string s] W fun e w' => ∃ (ca : Option Addr) (cq : Nat) (T E : Int), e = .returned (.tuple #[.slice ca M cq, .int .i64 T, .int .i64 E]) ∧ Hid (w'.ownsRow B 52 3 (.slice ca M cq) M (rowC x.cs) ∧ Below wr.heap.size wr w')) := fun W hW => (parse_some x.cs hS.oks x.tl hS.tail s (by rw [← hs]; exact hS.text) (by rw [← hs]; exact hS.size) W).mono fun e w' ⟨v, e1, e2, e3⟩ => by
        rw [hM] at e2
        obtain ⟨ca, cq, rfl⟩ := row_slice e2
        have hsz := hW.out.size
        have hsz2 := hI.out.2.2.size
        have := hBh.out
        exact ⟨ca, cq, _, _, e1, row_base e2 (by omega), hW.out.trans (e3.mono hsz)⟩
      rw [hF] at k0
      have g1 : (i : Int) < (LN : Int) := by omega
      have g2 : (0 : Int) ≤ (i : Int) := by omega
      have g4 : IntKind.i64.wrap ((i : Int) + 1) = (i : Int) + 1 := by simp [IntKind.wrap, IntKind.bits, IntKind.signed]; omega
      have hx : Hid (l[i]? = some x) := hx
      have hMM : Hid (x.cs.length = M) := hM
      clear hlen' hS hF hs hM
      go_wp2_with (first
        | (go_at_call 200; refine (h200.out _ b2).mono ?_; rintro e w3 ⟨ca, cq, T, E, rfl, s3⟩)
        | (go_at_call 109; refine h109.out.mono ?_; rintro e w2 ⟨rfl, b2⟩))
      obtain ⟨KI, hKI⟩ : ∃ KI, keysOf (l.take i) = KI := ⟨_, rfl⟩
      have hS3 : Hid (Below B w w3 ∧ B ≤ w3.heap.size) := by
        have e1 := hI.out.2.2
        have e2 := s3.out.2
        have e3 := hBh.out
        have e4 := e1.size
        have e5 := e2.size
        exact ⟨e1.trans (e2.mono (by omega)), by omega⟩
      have hR3 : Hid (n = KI.length ∧ w3.ownsRow B 9 1 (.slice ka n kq) n (strV KI)) := by
        have e1 := hI.out
        rw [hKI] at e1
        exact ⟨e1.1, row_below e1.2.1 s3.out.2⟩
      have r52 : Hid (w3.ownsRow B 52 3 (.slice ca M cq) M (rowC x.cs)) := s3.out.1
      have hKn : KI.length + M ≤ 16777215 := by
        have e1 := keys_le l (i + 1)
        rw [keys_step hx.out, hKI, List.length_append, List.length_map, hMM.out] at e1
        have := hm.out
        omega
      have hnext : Hid (keysOf (l.take (i + 1)) = KI ++ x.cs.map Ch.k) := by rw [← hKI]; exact keys_step hx.out
      clear hI s3 h109 h200 b2 hKI hx
      go_loopw [6, 39] (fun v p wr => ∃ j : Nat, j ≤ M ∧ p = .int .i64 (j : Int) ∧ ∃ ka n kq, v = .slice ka n kq ∧ Hid (n = (KI ++ (x.cs.take j).map Ch.k).length ∧ wr.ownsRow B 9 1 (.slice ka n kq) n (strV (KI ++ (x.cs.take j).map Ch.k)) ∧ AUpd B w3 wr)) (fun _ p _ => M - (intOf p).toNat)
      case atStart => exact ⟨0, Nat.zero_le _, rfl, ka, n, kq, rfl, by simpa using hR3.out.1, by simpa using hR3.out.2, AUpd.refl _ _⟩
      case round =>
        clear hR3
        obtain ⟨j, hj, rfl, ka, n, kq, rfl, hJ⟩ := hrel
        rcases Nat.lt_or_ge j M with hjl | hjg
        · have hM' := hMM.out
          obtain ⟨c, hc⟩ : ∃ c, x.cs[j]? = some c := ⟨_, List.getElem?_eq_getElem (by omega)⟩
          obtain ⟨ca', cq', ev, hch⟩ := chs_of (show wr.ownsRow B 52 3 (.slice ca M cq) x.cs.length (rowC x.cs) by rw [hM']; exact hJ.out.2.2.row r52.out (by decide) (by decide))
          injection ev with ev1 ev2 ev3
          subst ev1
          clear ev2 ev3
          obtain ⟨g, rfl, _, y1a, y2a, y3a⟩ := hch j c hc
          have hn0 := hJ.out.1
          have hn16 : n ≤ 16777214 := by
            rw [hn0, List.length_append, List.length_map, List.length_take]
            omega
          have hBs : B ≤ wr.heap.size := Nat.le_trans hS3.out.2 hJ.out.2.2.size
          obtain ⟨k1, hk1⟩ : ∃ k1, c.k = k1 := ⟨_, rfl⟩
          obtain ⟨k2, hk2⟩ : ∃ k2, c.val = k2 := ⟨_, rfl⟩
          obtain ⟨k3, hk3⟩ : ∃ k3, c.dead = k3 := ⟨_, rfl⟩
          have y1 : wr.cell? ⟨g, j * 3, none⟩ = some (.string k1) := by rw [← hk1]; exact y1a
          have y2 : wr.cell? ⟨g, j * 3 + 1, none⟩ = some (.string k2) := by rw [← hk2]; exact y2a
          have y3 : wr.cell? ⟨g, j * 3 + 2, none⟩ = some (.bool k3) := by rw [← hk3]; exact y3a
          obtain ⟨KJ, hKJ⟩ : ∃ KJ, KI ++ (x.cs.take j).map Ch.k = KJ := ⟨_, rfl⟩
          have hKJ1 : Hid (KI ++ (x.cs.take (j + 1)).map Ch.k = KJ ++ [k1]) := by rw [← hKJ, ← hk1]; show _ = _; rw [keys_take hc, List.append_assoc]
          have hJ : Hid (n = KJ.length ∧ wr.ownsRow B 9 1 (.slice ka n kq) n (strV KJ) ∧ AUpd B w3 wr) := by rw [← hKJ]; exact hJ.out
          have R1 := hJ.out.2.1
          obtain ⟨pb, hpb⟩ : ∃ pb, wr.heap.size = pb := ⟨_, rfl⟩
          have hnews : Hid (∀ j u, [Value.string k1][j]? = some u → ((wr.alloc (.cells #[.string k1, .string k2, .bool k3] 52)).alloc (.cells #[.string k1] 9)).cell? ((⟨pb + 1, 0, none⟩ : Addr).add j) = some u) := by
            have := new_onek (wr.alloc (.cells #[.string k1, .string k2, .bool k3] 52)) k1
            rw [World.size_alloc, hpb] at this
            exact this
          have hAU : Hid (∀ o1 o2 : Obj, AUpd B wr ((wr.alloc o1).alloc o2)) := fun o1 o2 => (AUpd.ofBelow ((Below.refl _ wr).alloc (Nat.le_refl _) o1)).trans (AUpd.ofBelow ((Below.refl _ _).alloc (Nat.le_refl _) o2))
          have g1 : (j : Int) < (M : Int) := by omega
          have g2 : (0 : Int) ≤ (j : Int) := by omega
          have g4 : IntKind.i64.wrap ((j : Int) + 1) = (j : Int) + 1 := by simp [IntKind.wrap, IntKind.bits, IntKind.signed]; omega
          clear hch y1a y2a y3a hk1 hk2 hk3 hKJ hn0 hM' hc
          go_wp2_with (at_builtin; go_loud (refine wpList_append_src rfl _ _ 108 rfl B 9 i9 (.string ⟨#[]⟩) 1 16 Tryz.underlying108 hi9 hz0 hz1 hz2 rfl (by decide) _ _ _ ((R1.alloc _).alloc _) rfl [.string k1] (some ⟨pb + 1, 0, none⟩) 1 1 rfl rfl (fun _ => ⟨_, rfl, hnews.out⟩) (by simp [Value.oneCell']) (by unfold maxLen; omega) (by omega) (by simp; omega) ?_; intro v4 w4 own4 grow4 loc4; clear loc4; obtain ⟨a4, c4, rfl⟩ := row_slice own4; have U4 : Hid (AUpd B wr w4) := (hAU.out _ _).trans (AUpd.grown ((R1.alloc _).alloc _) grow4); have O4 : Hid (w4.ownsRow B 9 1 (.slice a4 (n + 1) c4) (n + 1) (strV KJ ++ [.string k1])) := own4; clear own4 grow4))
          go_roundw
          case rel => exact ⟨j + 1, by omega, by simp, a4, n + 1, c4, rfl, by rw [hKJ1.out]; simp [hJ.out.1], by rw [hKJ1.out]; have := O4.out; rwa [show strV (KJ ++ [k1]) = strV KJ ++ [.string k1] by simp [strV]], hJ.out.2.2.trans U4.out⟩
          case measure => simp; omega
        · obtain rfl : j = M := by omega
          go_wp2
          go_roundw
          case rel =>
            have e1 := hJ.out
            rw [← hMM.out, List.take_length, ← hnext.out] at e1
            exact ⟨i + 1, by omega, by simp, ka, n, kq, rfl, e1.1, e1.2.1, hS3.out.1.trans (e1.2.2.below hS3.out.2)⟩
          case measure => simp; omega
    · obtain rfl : i = LN := by omega
      have h159 : Hid (Calls Tryz.prog 159 #[.slice ka n kq] wr fun e w' => e = .returned (.tuple #[]) ∧ Hid (Calls Tryz.prog 201 #[.slice ka n kq] w' fun e w'' => ∃ ka n2 q2, e = .returned (.slice ka n2 q2) ∧ Hid (n2 = R.length ∧ SpAt w'' B ka R ∧ Below B w w''))) := by
        have e1 := hI.out
        rw [← hLN.out, List.take_length] at e1
        exact hend'.out wr n ka kq (by rw [← e1.1]; exact e1.2.1) e1.2.2
      clear hI hend'
      go_wp2_with (first
        | (go_at_call 201; refine c201.out.mono ?_; rintro e w7 ⟨ka2, n2, q2, rfl, s7⟩)
        | (go_at_call 159; refine h159.out.mono ?_; rintro e w6 ⟨rfl, c201⟩))
      go_ret2
      exact ⟨ka2, n2, q2, rfl, s7.out⟩
end Go.Proofs.YtfmmholkeadejaaGreatDoor

/- Keys, sorted, each once: slices.Sort and slices.Compact over a row of texts. -/
namespace Go.Proofs.YtfmmholkeadejaaGreatDoor
open Go.RowKit Go.Lib

/-- Sorted, each once. -/
def spk (ks : List ByteArray) : List ByteArray := (compact ((ks.map fun k => k.data.toList).mergeSort fun x y => decide (x ≤ y))).map fun x => ⟨x.toArray⟩
theorem compact_empty (a : Option Addr) (q : Nat) (w : World) : Calls Tryz.prog 201 #[.slice a 0 q] w fun e w' => e = .returned (.slice a 0 q) ∧ w' = w := by
  go_enter Tryz.func201, Tryz.ntmps201
  go_wp2
  go_ret
  exact ⟨rfl, rfl⟩
theorem eql_str : EqlAt Tryz.prog 9 encStr (fun x y => decide (x = y)) := ⟨fun x y w => by by_cases h : x = y <;> simp [binOp, Op.stringOp, h], fun op a b x y w => GuardAt.string Tryz.prog 9 op a b _ _ w⟩
theorem neq_str : NeqAt Tryz.prog 9 encStr (fun x y => decide (x = y)) := ⟨fun x y w => by by_cases h : x = y <;> simp [binOp, Op.stringOp, h], fun op a b x y w => GuardAt.string Tryz.prog 9 op a b _ _ w⟩
set_option maxRecDepth 100000 in
theorem sort_compact (B : Nat) (ks : List ByteArray) (hl : ks.length ≤ 16777215) (W : World) (v : Value) (hr : W.ownsRow B 9 1 v ks.length (strV ks)) :
    Calls Tryz.prog 159 #[v] W fun e w' => e = .returned (.tuple #[]) ∧ Calls Tryz.prog 201 #[v] w' fun e w'' => ∃ ka n2 q2, e = .returned (.slice ka n2 q2) ∧ n2 = (spk ks).length ∧ SpAt w'' B ka (spk ks) ∧ Below B W w'' := by
  obtain ⟨xs, hxs⟩ : ∃ xs, ks.map (fun k => k.data.toList) = xs := ⟨_, rfl⟩
  have hxl : xs.length = ks.length := by rw [← hxs, List.length_map]
  have hsV : strV ks = xs.map encStr := by
    rw [← hxs, strV, List.map_map]
    rfl
  unfold spk
  rw [hxs]
  rcases hr.2 with ⟨rfl, h0⟩ | ⟨g, cap, cur, rfl, hb, hg, h1, h2, h3, h4⟩
  · have hx : xs = [] := List.eq_nil_of_length_eq_zero (by omega)
    subst hx
    have e0 : (compact (([] : List (List UInt8)).mergeSort fun x y => decide (x ≤ y))).map (fun x => (⟨x.toArray⟩ : ByteArray)) = [] := by simp [compact, compactUpTo]
    rw [e0]
    refine (AnyM.slices_Sort_string_none Tryz.laysSlM6_f159 none 0 W).mono ?_
    rintro e w' ⟨e1, rfl⟩
    refine ⟨e1, (compact_empty none 0 _).mono ?_⟩
    rintro e w'' ⟨e2, rfl⟩
    exact ⟨none, 0, 0, e2, rfl, .inl rfl, Below.refl _ _⟩
  · have hgl := (Array.getElem?_eq_some_iff.1 hg).1
    rw [hsV] at h4
    have hH : Go.Sort.Holds encStr W g 0 xs.toArray := holds_of_block hg (by simpa [hxl] using h4)
    have hs := AnyM.slices_Sort_string Tryz.laysSlM6_f159 g 0 cap xs W hH hgl (by omega)
    change Calls Tryz.prog 159 _ _ _ at hs
    rw [hxl] at hs
    refine hs.mono ?_
    obtain ⟨ys, hys⟩ : ∃ ys, (xs.mergeSort fun x y => decide (x ≤ y)) = ys := ⟨_, rfl⟩
    rw [hys]
    have hyl : ys.length = xs.length := by rw [← hys, List.length_mergeSort]
    rintro e w' ⟨e1, n, os, hw⟩
    refine ⟨e1, ?_⟩
    have hgb : W.grownBy w' (some g) := by rw [hw]; exact grownBy_sorted (w := W) (g := g) (n := n) (os := os) ys.toArray
    have hH' : Go.Sort.Holds encStr w' g 0 ys.toArray := by
      rw [hw]
      refine Go.Sort.holds_grow _ _ _ _ _ _ (by rw [Go.Sort.size_putRow]; exact hgl) (Go.Sort.holds_putRow encStr _ g 0 xs.toArray ys.toArray hH (by simp [hyl]))
    have hc := AnyE.slices_Compact Tryz.laysSlE43_f201 encStr (fun _ => rfl) eql_str neq_str [] Tryz.zeroValue9 g 0 cap ys.toArray w' hH' (by simp; omega) (by simp; omega)
    change Calls Tryz.prog 201 _ _ _ at hc
    have es : ys.toArray.size = ks.length := by simp; omega
    have ec : compactUpTo ys.toArray ys.toArray.size = compact ys := by simp [compact]
    rw [ec, es] at hc
    have hle : (compact ys).length ≤ ks.length := by
      unfold compact compactUpTo
      rw [List.length_map]
      refine Nat.le_trans (List.length_filter_le _ _) ?_
      simp; omega
    generalize compact ys = F at hc hle ⊢
    refine hc.mono fun e w'' ⟨he, q, hw2⟩ => ⟨_, _, _, he, by simp, .inr ⟨g, 0, rfl, hb, ?_, fun i x hi => ?_⟩, ?_⟩
    · rw [hw2, Go.Sort.size_putRow]
      show g < w'.heap.size
      have := hgb.size
      omega
    · rw [List.getElem?_map] at hi
      obtain ⟨y, hy, rfl⟩ := Option.map_eq_some_iff.1 hi
      have hi' := (List.getElem?_eq_some_iff.1 hy).1
      have hD : (F ++ List.replicate (ks.length - F.length) []).toArray.size = ys.toArray.size := by simp; omega
      have := Go.Sort.cell?_putRow encStr (Go.Sort.ahead w' q) g 0 ys.toArray (F ++ List.replicate (ks.length - F.length) []).toArray hH' hD i (by rw [hD, es]; omega)
      rw [hw2, this]
      have hx : (F ++ List.replicate (ks.length - F.length) []).toArray[i]! = y := by
        rw [getElem!_pos _ i (by rw [hD, es]; omega)]
        simp only [List.getElem_toArray]
        rw [List.getElem_append_left hi']
        exact (List.getElem?_eq_some_iff.1 hy).2
      rw [hx]
    · have hgb2 : w'.grownBy w'' (some g) := by
        have := grownBy_sorted (w := w') (g := g) (n := q) (os := #[]) (F ++ List.replicate (ks.length - F.length) []).toArray
        rw [Go.Sort.grow_empty] at this
        rw [hw2]
        exact this
      have hB1 : Below B W w' := ⟨hgb.os, hgb.tape, hgb.output, hgb.size, fun k hk => hgb.block k (by omega) (by simp; omega)⟩
      have hB2 : Below B w' w'' := ⟨hgb2.os, hgb2.tape, hgb2.output, hgb2.size, fun k hk => hgb2.block k (by have := hgb.size; omega) (by simp; omega)⟩
      exact hB1.trans hB2
/-- spoken, whole. -/
theorem spoken_all (N : Lo) (d : Nat) (S : Dk) (nm : ByteArray) (l : List Sg) (hf : ∀ x ∈ l, SpOk S nm x) (hm : (l.flatMap Sg.cs).length ≤ 16777215) (hlen : l.length ≤ 16777215) (a : Option Addr) (q : Nat) (w : World) (h : DiskAt w N d S)
    (ha : ∀ i x, l[i]? = some x → ∃ b o, a = some ⟨b, o, none⟩ ∧ b < w.heap.size ∧ w.cell? ⟨b, o + i, none⟩ = some (.string (fileB nm x.n))) :
    Calls Tryz.prog 167 #[.pointer (some ⟨d, 0, none⟩), .slice a l.length q] w fun e w' => ∃ ka n2 q2, e = .returned (.tuple #[.slice ka n2 q2, .int .i64 0]) ∧ n2 = (spk (keysOf l)).length ∧ SpAt w' w.heap.size ka (spk (keysOf l)) ∧ Below w.heap.size w w' :=
  spoken_some N d S nm l hf hm hlen a q w h ha (spk (keysOf l)) fun W v hr hb => (sort_compact w.heap.size (keysOf l) (by unfold keysOf; rw [List.length_map]; exact hm) W v hr).mono fun e w' ⟨e1, e2⟩ => ⟨e1, e2.mono fun e' w'' ⟨ka, n2, q2, f1, f2, f3, f4⟩ => ⟨ka, n2, q2, f1, f2, f3, hb.trans f4⟩⟩
end Go.Proofs.YtfmmholkeadejaaGreatDoor

/- squashed (130) with older segments. -/
namespace Go.Proofs.YtfmmholkeadejaaGreatDoor
open Go.RowKit

theorem AUpd.mono {B B' : Nat} {w w' : World} (h : AUpd B' w w') (hB : B ≤ B') : AUpd B w w' := ⟨h.os, h.tape, h.output, h.size, fun i o hi hc => h.block i o hi (hc.elim (fun q => .inl (by omega)) .inr)⟩
/-- The keys that are gone. -/
def goneK (kv : Fs) (ks : List ByteArray) : List ByteArray := ks.filter fun k => !(get kv k.data.toList).isSome
def recsD (ks : List ByteArray) : List ByteArray := ks.map fun k => recV k ⟨#[]⟩ true
theorem recsD_step {kv : Fs} {ks : List ByteArray} {j : Nat} {k : ByteArray} (h : ks[j]? = some k) : recsD (goneK kv (ks.take (j + 1))) = recsD (goneK kv (ks.take j)) ++ (if (get kv k.data.toList).isSome = true then [] else [recV k ⟨#[]⟩ true]) := by
  unfold recsD goneK
  rw [List.take_add_one, h]
  cases hg : get kv k.data.toList <;> simp [hg]
theorem SpAt.aupd {B : Nat} {w w' : World} {m : Nat} {ka : Option Addr} {ks : List ByteArray} (h : SpAt w m ka ks) (hu : AUpd B w w') (hB : w.heap.size ≤ B) : SpAt w' m ka ks := by
  rcases h with h | ⟨g, o, e, h1, h2, h3⟩
  · exact .inl h
  · exact .inr ⟨g, o, e, h1, Nat.lt_of_lt_of_le h2 hu.size, fun i x hx => ((hu.mono (B := w.heap.size) hB).below (Nat.le_refl _)).cell (p := ⟨g, o + i, none⟩) h2 |>.trans (h3 i x hx)⟩
/-- All records of the squashed segment. -/
def shedR (K : Ck) (l : List Sg) : List ByteArray := recsP (kvL K.kv) ++ recsD (goneK K.kv (spk (keysOf l)))
set_option maxHeartbeats 0 in
set_option maxRecDepth 100000 in
theorem squashed_all (N : Lo) (c d mb : Nat) (sv : Value) (S : Dk) (K : Ck) (os : List Sg) (hf : ∀ x ∈ os, SpOk S K.nm x) (hm : (os.flatMap Sg.cs).length ≤ 8000000) (hlen : os.length ≤ 16777215) (hks : ∀ k ∈ spk (keysOf os), cfE k ⟨#[]⟩ = 0) (hkl : (spk (keysOf os)).length ≤ 8000000) (hbk : K.broken = false) (a : Option Addr) (q : Nat) (w : World) (h : CaskOpen w N c d mb sv S K) (hok0 : ∀ p ∈ kvL K.kv, cfE (strL p.1) (strL p.2) = 0) (hsm : K.kv.length < 8000000)
    (ha : ∀ i x, os[i]? = some x → ∃ b o, a = some ⟨b, o, none⟩ ∧ b < w.heap.size ∧ w.cell? ⟨b, o + i, none⟩ = some (.string (fileB K.nm x.n))) :
    Calls Tryz.prog 130 #[.pointer (some ⟨c, 0, none⟩), .slice a os.length q] w fun e w' => ∃ a2 n2 q2, e = .returned (.tuple #[.slice a2 n2 q2, .int .i64 0]) ∧ w'.ownsRow w.heap.size 9 1 (.slice a2 n2 q2) (shedR K os).length (strV (shedR K os)) ∧ AUpd w.heap.size w w' := by
  have hmf : ∀ (fn : Fn) (first cap : Array Value) (w : World), (Instr.makeFunc fn first cap).run Tryz.prog w = .ok (.func fn first cap) w := fun _ _ _ _ => rfl
  obtain ⟨B, hB⟩ : ∃ B, w.heap.size = B := ⟨_, rfl⟩
  obtain ⟨l, hl⟩ : ∃ l, kvL K.kv = l := ⟨_, rfl⟩
  obtain ⟨R, hRR⟩ : ∃ R, spk (keysOf os) = R := ⟨_, rfl⟩
  obtain ⟨RN, hRN0⟩ : ∃ RN, R.length = RN := ⟨_, rfl⟩
  obtain ⟨ON, hON⟩ : ∃ ON, os.length = ON := ⟨_, rfl⟩
  have hln : l.length = K.kv.length := by rw [← hl, kvL_len]
  have h27 : Hid (Calls Tryz.prog 27 #[.pointer (some ⟨c, 0, none⟩)] w fun e w' => e = .returned (.pointer (some ⟨d, 0, none⟩)) ∧ Hid (Below w.heap.size w w')) := disk_some c d mb sv K w h.holds
  have h167 : Hid (∀ W, Hid (Below w.heap.size w W) → Calls Tryz.prog 167 #[.pointer (some ⟨d, 0, none⟩), .slice a ON q] W fun e w' => ∃ ka q2, e = .returned (.tuple #[.slice ka RN q2, .int .i64 0]) ∧ Hid (SpAt w' B ka R ∧ Below w.heap.size w w')) := fun W hW => by
    rw [← hON]
    refine (spoken_all N d S K.nm os hf (by omega) hlen a q W (h.disk.below hW.out) (fun i x hx => ?_)).mono fun e w' ⟨ka, n2, q2, e1, e2, e3, e4⟩ => ⟨ka, q2, ?_, ?_, hW.out.trans (e4.mono hW.out.size)⟩
    · obtain ⟨b, o, f1, f2, f3⟩ := ha i x hx
      exact ⟨b, o, f1, Nat.lt_of_lt_of_le f2 hW.out.size, (hW.out.cell (p := ⟨b, o + i, none⟩) f2).trans f3⟩
    · rw [e1, e2, hRR, hRN0]
    · rw [hRR] at e3
      rcases e3 with e3 | ⟨g, o, q1, q2, q3, q4⟩
      · exact .inl e3
      · exact .inr ⟨g, o, q1, by have := hW.out.size; omega, q3, q4⟩
  have HC : Hid (∀ W, AUpd w.heap.size w W → CaskOpen W N c d mb sv S K) := fun W hW => AUpd.cask h hW
  have h23 : Hid (∀ W, AUpd w.heap.size w W → Calls Tryz.prog 23 #[.pointer (some ⟨c, 0, none⟩)] W fun e w' => ∃ fa fq, e = .returned (.slice fa l.length fq) ∧ Hid (Below W.heap.size W w' ∧ w'.ownsRow W.heap.size 103 2 (.slice fa l.length fq) l.length (cellsP l))) := fun W hW => (fold_some N c d mb sv S K W (HC.out W hW)).mono fun e w' ⟨v, e1, e2, e3⟩ => by
    rw [hl, ← hln] at e2
    obtain ⟨fa, fq, rfl⟩ := row_slice e2
    exact ⟨fa, fq, e1, e3, e2⟩
  have h15 : Hid (∀ (W : World) (k : ByteArray), AUpd w.heap.size w W → k ∈ R → Calls Tryz.prog 15 #[.pointer (some ⟨c, 0, none⟩), .string k] W fun e w' => e = .returned (.tuple #[.string (getV K.kv k), .int .i64 (getE K.kv k)]) ∧ Hid (Below W.heap.size W w')) := fun W k hW hk => get_some N c d mb sv S K k (by have := cfE_zero (hks k (by rw [hRR]; exact hk)); unfold maxLen; omega) W (HC.out W hW) hbk
  have hok : Hid (∀ p ∈ l, cfE (strL p.1) (strL p.2) = 0) := by rw [← hl]; exact hok0
  have hks : Hid (∀ k ∈ R, cfE k ⟨#[]⟩ = 0) := by rw [← hRR]; exact hks
  unfold shedR
  rw [hl, hRR]
  rw [hRR] at hkl
  rw [hRN0] at hkl
  rw [hON]
  rw [hB] at h27 h167 HC h23 h15 ⊢
  obtain ⟨LN, hLN0⟩ : ∃ LN, l.length = LN := ⟨_, rfl⟩
  rw [hLN0] at h23 hln
  have hLs : LN < 8000000 := by omega
  have hLN : Hid (l.length = LN) := hLN0
  have hRN : Hid (R.length = RN) := hRN0
  clear hLN0 hRN0 hRR hON
  have hBh : Hid (w.heap.size = B) := hB
  clear h hl hsm hln hok0 ha hf hm hlen hbk
  obtain ⟨kvv, hkvv⟩ : ∃ kvv, K.kv = kvv := ⟨_, rfl⟩
  rw [hkvv] at h15 ⊢
  go_enter Tryz.func130, Tryz.ntmps130
  go_wp2_with (first
    | (go_at_call 23; refine (h23.out _ U2.out).mono ?_; rintro e w3 ⟨fa, fq, rfl, s3⟩)
    | (go_at_call 167; refine (h167.out _ b1).mono ?_; rintro e w2 ⟨ka, q2, rfl, s2⟩; obtain ⟨lb, hlb⟩ : ∃ lb, w2.heap.size = lb := ⟨_, rfl⟩; have X2 : Hid (Holds (w2.alloc (.cells #[.slice none 0 0] 108)) lb [.slice none 0 0] 108) := (hlb ▸ holds_new w2 [.slice none 0 0] 108); have U2 : Hid (AUpd B w (w2.alloc (.cells #[.slice none 0 0] 108))) := (AUpd.ofBelow (by rw [hB]; exact s2.out.2)).trans (AUpd.ofBelow ((Below.refl _ w2).alloc (Nat.le_refl _) _)))
    | (go_at_call 27; refine h27.out.mono ?_; rintro e w1 ⟨rfl, b1⟩))
  have U23 : Hid (AUpd lb w2 w3) := (AUpd.ofBelow ((Below.refl _ w2).alloc (Nat.le_refl _) _)).trans (AUpd.ofBelow s3.out.1)
  have U0 : Hid (AUpd B w w3) := U2.out.trans (AUpd.ofBelow s3.out.1)
  have X3 : Hid (Holds w3 lb [.slice none 0 0] 108) := X2.out.below s3.out.1 X2.out.lt
  have hSp : Hid (SpAt w2 B ka R) := s2.out.1
  have hBl : B ≤ lb := by have := s2.out.2.size; have := hBh.out; omega
  have hl2 : Hid (w2.heap.size = lb) := hlb
  have r3 : Hid (w3.ownsRow lb 103 2 (.slice fa LN fq) LN (cellsP l)) := row_base s3.out.2 (by rw [World.size_alloc, hlb]; omega)
  clear s3 s2 X2 U2 h27 h167 h23 b1 hlb hB
  go_loopw [30] (fun p wr => ∃ j : Nat, j ≤ LN ∧ p = .int .i64 (j : Int) ∧ ∃ rv, Hid (Holds wr lb [rv] 108 ∧ wr.ownsRow lb 9 1 rv (recsP (l.take j)).length (strV (recsP (l.take j))) ∧ AUpd lb w3 wr)) (fun p _ => LN - (intOf p).toNat)
  case atStart => exact ⟨0, Nat.zero_le _, rfl, .slice none 0 0, X3.out, by simpa [recsP, strV] using World.ownsRow_nil _ _ _ _, AUpd.refl _ _⟩
  case round =>
    obtain ⟨j, hj, rfl, rv, hJ⟩ := hrel
    rcases Nat.lt_or_ge j LN with hjl | hjg
    · have hLN' := hLN.out
      obtain ⟨p, hp⟩ : ∃ p, l[j]? = some p := ⟨_, List.getElem?_eq_getElem (by omega)⟩
      clear hLN'
      obtain ⟨a', q', ev, hcell⟩ := prs_of_row (show wr.ownsRow lb 103 2 (.slice fa LN fq) l.length (cellsP l) by rw [hLN.out]; exact hJ.out.2.2.row r3.out (by decide) (by decide))
      injection ev with ev1 ev2 ev3
      subst ev1
      clear ev2 ev3
      obtain ⟨g, o, rfl, hgl, hcc⟩ := hcell (fun e => by rw [e] at hp; simp at hp)
      obtain ⟨y1a, y2a⟩ := hcc j p hp
      have hpE := hok.out p (List.mem_of_getElem? hp)
      have h168 : Hid (∀ W, (AUpd lb wr W ∧ ∃ rv2, Holds W lb [rv2] 108 ∧ W.ownsRow lb 9 1 rv2 (recsP (l.take j)).length (strV (recsP (l.take j)))) → Calls Tryz.prog 168 #[.string (strL p.1), .string (strL p.2), .bool false, .pointer (some ⟨lb, 0, none⟩)] W fun e w' => e = .returned (.tuple #[]) ∧ ∃ rv', Hid (Holds w' lb [rv'] 108 ∧ w'.ownsRow lb 9 1 rv' (recsP (l.take (j + 1))).length (strV (recsP (l.take (j + 1)))) ∧ AUpd lb w3 w')) := fun W hW => by
        obtain ⟨rv2, hrv, hrow⟩ : ∃ rv2, Holds W lb [rv2] 108 ∧ W.ownsRow lb 9 1 rv2 (recsP (l.take j)).length (strV (recsP (l.take j))) := hW.2
        exact (add_rec lb lb rv2 (recsP (l.take j)) (strL p.1) (strL p.2) false hpE (by simp [recsP]; omega) W (Nat.le_refl _) hrv hrow).mono fun e w' ⟨e1, rv', e2, e3, e4⟩ => ⟨e1, rv', e2, by rw [recs_step hp]; exact e3, (hJ.out.2.2.trans hW.1).trans e4⟩
      obtain ⟨k1, hk1⟩ : ∃ k1, strL p.1 = k1 := ⟨_, rfl⟩
      obtain ⟨k2, hk2⟩ : ∃ k2, strL p.2 = k2 := ⟨_, rfl⟩
      have y1 : wr.cell? ⟨g, o + j * 2, none⟩ = some (.string k1) := by rw [← hk1]; exact y1a
      have y2 : wr.cell? ⟨g, o + j * 2 + 1, none⟩ = some (.string k2) := by rw [← hk2]; exact y2a
      rw [hk1, hk2] at h168
      have g1 : (j : Int) < (LN : Int) := by omega
      have g2 : (0 : Int) ≤ (j : Int) := by omega
      have g4 : IntKind.i64.wrap ((j : Int) + 1) = (j : Int) + 1 := by simp [IntKind.wrap, IntKind.bits, IntKind.signed]; omega
      obtain ⟨pb, hpb⟩ : ∃ pb, wr.heap.size = pb := ⟨_, rfl⟩
      have UB : Hid (∀ W, Below wr.heap.size wr W → AUpd lb wr W ∧ ∃ rv2, Holds W lb [rv2] 108 ∧ W.ownsRow lb 9 1 rv2 (recsP (l.take j)).length (strV (recsP (l.take j)))) := fun W hb => ⟨AUpd.ofBelow hb, rv, hJ.out.1.below hb hJ.out.1.lt, row_below hJ.out.2.1 hb⟩
      have BA : Hid (∀ o : Obj, Below wr.heap.size wr (wr.alloc o)) := fun o => (Below.refl _ wr).alloc (Nat.le_refl _) o
      clear hcc hcell hpE hk1 hk2 hp hJ y1a y2a
      go_wp2_with (first
        | (go_at_call 168; refine (h168.out _ (UB.out _ (BA.out _))).mono ?_; rintro e w5 ⟨rfl, rv5, s5⟩))
      go_roundw
      case rel => exact ⟨j + 1, by omega, by simp, rv5, s5⟩
      case measure => simp; omega
    · obtain rfl : j = LN := by omega
      have hrw : Hid (Holds wr lb [rv] 108 ∧ wr.ownsRow lb 9 1 rv (recsP l).length (strV (recsP l)) ∧ AUpd lb w3 wr) := by
        have := hJ.out
        rw [← hLN.out, List.take_length] at this
        exact this
      clear hJ X3 r3 hok
      go_wp2_with fail
      go_loopw [43] (fun p wr => ∃ i : Nat, i ≤ RN ∧ p = .int .i64 (i : Int) ∧ ∃ rv, Hid (Holds wr lb [rv] 108 ∧ wr.ownsRow lb 9 1 rv (recsP l ++ recsD (goneK kvv (R.take i))).length (strV (recsP l ++ recsD (goneK kvv (R.take i)))) ∧ AUpd lb w3 wr)) (fun p _ => RN - (intOf p).toNat)
      case atStart => exact ⟨0, Nat.zero_le _, rfl, rv, hrw.out.1, by simpa [recsD, goneK] using hrw.out.2.1, hrw.out.2.2⟩
      case round =>
        clear hrw
        obtain ⟨i, hi, rfl, rv, hJ⟩ := hrel
        rcases Nat.lt_or_ge i RN with hil | hig
        · have hRN' := hRN.out
          obtain ⟨k, hk⟩ : ∃ k, R[i]? = some k := ⟨_, List.getElem?_eq_getElem (by omega)⟩
          have hkm := List.mem_of_getElem? hk
          obtain ⟨g, o, rfl, y1⟩ : ∃ g o, ka = some ⟨g, o, none⟩ ∧ wr.cell? ⟨g, o + i, none⟩ = some (.string k) := by
            rcases hSp.out.aupd (U23.out.trans hJ.out.2.2) (by rw [hl2.out]; omega) with e | ⟨g, o, e1, _, _, e2⟩
            · rw [e] at hk; simp at hk
            · exact ⟨g, o, e1, e2 i k hk⟩
          have hg15 : Hid (Calls Tryz.prog 15 #[.pointer (some ⟨c, 0, none⟩), .string k] wr fun e w' => e = .returned (.tuple #[.string (getV kvv k), .int .i64 (getE kvv k)]) ∧ Hid (Below wr.heap.size wr w')) := h15.out wr k (U0.out.trans (hJ.out.2.2.mono hBl)) hkm
          have hcf := hks.out k hkm
          have hst := recsD_step (kv := kvv) hk
          have hln : (recsP l ++ recsD (goneK kvv (R.take i))).length < 16777216 := by
            have e1 : (recsD (goneK kvv (R.take i))).length ≤ RN := by
              unfold recsD goneK
              rw [List.length_map]
              refine Nat.le_trans (List.length_filter_le _ _) ?_
              rw [List.length_take]
              omega
            have e2 : (recsP l).length = j := by unfold recsP; rw [List.length_map]; exact hLN.out
            rw [List.length_append]
            omega
          have g1 : (i : Int) < (RN : Int) := by omega
          have g2 : (0 : Int) ≤ (i : Int) := by omega
          have g4 : IntKind.i64.wrap ((i : Int) + 1) = (i : Int) + 1 := by simp [IntKind.wrap, IntKind.bits, IntKind.signed]; omega
          obtain ⟨gv, hgv⟩ : ∃ gv, getV kvv k = gv := ⟨_, rfl⟩
          rw [hgv] at hg15
          by_cases hs : (get kvv k.data.toList).isSome = true
          · have e0 : getE kvv k = 0 := by unfold getE; rw [if_pos hs]
            rw [e0] at hg15
            rw [if_pos hs, List.append_nil] at hst
            have hnx : Hid (∀ W, Hid (Below wr.heap.size wr W) → Hid (Holds W lb [rv] 108 ∧ W.ownsRow lb 9 1 rv (recsP l ++ recsD (goneK kvv (R.take (i + 1)))).length (strV (recsP l ++ recsD (goneK kvv (R.take (i + 1))))) ∧ AUpd lb w3 W)) := fun W hb => by
              rw [hst]
              exact ⟨hJ.out.1.below hb.out hJ.out.1.lt, row_below hJ.out.2.1 hb.out, hJ.out.2.2.trans (AUpd.ofBelow hb.out)⟩
            clear hgv e0 hst hln hcf hkm hk hRN' hJ hs
            go_wp2_with (go_at_call 15; refine hg15.out.mono ?_; rintro e w4 ⟨rfl, b4⟩)
            go_roundw
            case rel => exact ⟨i + 1, by omega, by simp, rv, hnx.out _ b4⟩
            case measure => simp; omega
          · have e0 : getE kvv k = 21 := by unfold getE; rw [if_neg hs]
            rw [e0] at hg15
            rw [if_neg hs] at hst
            have h168 : Hid (∀ W, Hid (Below wr.heap.size wr W) → Calls Tryz.prog 168 #[.string k, .string ⟨#[]⟩, .bool true, .pointer (some ⟨lb, 0, none⟩)] W fun e w' => e = .returned (.tuple #[]) ∧ ∃ rv', Hid (Holds w' lb [rv'] 108 ∧ w'.ownsRow lb 9 1 rv' (recsP l ++ recsD (goneK kvv (R.take (i + 1)))).length (strV (recsP l ++ recsD (goneK kvv (R.take (i + 1))))) ∧ AUpd lb w3 w')) := fun W hb =>
              (add_rec lb lb rv _ k ⟨#[]⟩ true hcf hln W (Nat.le_refl _) (hJ.out.1.below hb.out hJ.out.1.lt) (row_below hJ.out.2.1 hb.out)).mono fun e w' ⟨e1, rv', e2, e3, e4⟩ => ⟨e1, rv', e2, by rw [hst, ← List.append_assoc]; exact e3, (hJ.out.2.2.trans (AUpd.ofBelow hb.out)).trans e4⟩
            clear hgv e0 hst hln hcf hkm hk hRN' hJ hs
            go_wp2_with (first
              | (go_at_call 168; refine (h168.out _ b4).mono ?_; rintro e w5 ⟨rfl, rv5, s5⟩)
              | (go_at_call 15; refine hg15.out.mono ?_; rintro e w4 ⟨rfl, b4⟩))
            go_roundw
            case rel => exact ⟨i + 1, by omega, by simp, rv5, s5⟩
            case measure => simp; omega
        · obtain rfl : i = RN := by omega
          have hfin : Hid (Holds wr lb [rv] 108 ∧ wr.ownsRow lb 9 1 rv (recsP l ++ recsD (goneK kvv R)).length (strV (recsP l ++ recsD (goneK kvv R))) ∧ AUpd lb w3 wr) := by
            have := hJ.out
            rw [← hRN.out, List.take_length] at this
            exact this
          clear hJ
          obtain ⟨a2, q3, rfl⟩ := row_slice hfin.out.2.1
          have x0 := hfin.out.1.at 0 _ rfl
          generalize hEN : (recsP l ++ recsD (goneK kvv R)).length = EN at *
          go_wp2
          go_ret2
          exact ⟨a2, _, q3, rfl, row_base (by rw [hEN]; exact hfin.out.2.1) hBl, U0.out.trans (hfin.out.2.2.mono hBl)⟩
end Go.Proofs.YtfmmholkeadejaaGreatDoor

/- The steps of Squash with older segments: the second and the third. -/
namespace Go.Proofs.YtfmmholkeadejaaGreatDoor
open Go.RowKit

theorem olds_of {W : World} {N : Lo} {a : Option Addr} {nm : ByteArray} {os : List Sg} (h : StrsAt W N a (os.map fun x => fileB nm x.n)) : ∀ i x, os[i]? = some x → ∃ b o, a = some ⟨b, o, none⟩ ∧ b < W.heap.size ∧ W.cell? ⟨b, o + i, none⟩ = some (.string (fileB nm x.n)) := fun i x hx => by
  rcases h with h | ⟨g, o, e, hg, _, hc⟩
  · rw [List.length_map] at h
    rw [List.eq_nil_of_length_eq_zero h] at hx
    simp at hx
  · exact ⟨g, o, e, hg, hc i _ (by rw [List.getElem?_map, hx]; rfl)⟩
/-- What squashing asks of a cask and its older segments. -/
structure ShOk (S : Dk) (K : Ck) (os : List Sg) : Prop where
  ok : ∀ x ∈ os, SpOk S K.nm x
  few : (os.flatMap Sg.cs).length ≤ 8000000
  len : os.length ≤ 256
  keys : ∀ k ∈ spk (keysOf os), cfE k ⟨#[]⟩ = 0
  kl : (spk (keysOf os)).length ≤ 8000000
  whole : K.broken = false
  pairs : ∀ p ∈ kvL K.kv, cfE (strL p.1) (strL p.2) = 0
  small : K.kv.length < 8000000
  sizes : ∀ r ∈ shedR K os, r.size ≤ 140737488355328
  count : (shedR K os).length ≤ 16777216
set_option maxHeartbeats 1600000 in
set_option maxRecDepth 100000 in
theorem step_shed_all (N : Lo) (c d mb bc bo bn : Nat) (sv : Value) (S : Dk) (K : Ck) (F : ByteArray) (hF : F.size ≤ 32) (hcom : nameOk (comB F) = true) (os : List Sg) (ON : Nat) (hON : os.length = ON) (ho : ShOk S K os) (hlen : S.fs.length < 256) (a : Option Addr) (q : Nat) (W : World) (h : CaskOpen W N c d mb sv S K) (h1 : Holds W bc [.pointer (some ⟨c, 0, none⟩)] 22) (hst : StrsAt W N a (os.map fun x => fileB K.nm x.n)) (h2 : Holds W bo [.slice a ON q] 108) (h3 : Holds W bn [.string F] 9) :
    Calls Tryz.prog 129 #[.pointer (some ⟨bc, 0, none⟩), .pointer (some ⟨bo, 0, none⟩), .pointer (some ⟨bn, 0, none⟩)] W fun e w' => e = .returned (.int .i64 (rnE S F (shedR K os))) ∧ CaskOpen w' N c d mb sv (rnS S F (shedR K os)) K ∧ DUpd N W w' := by
  have h130 : Hid (∀ W', Below W.heap.size W W' → Calls Tryz.prog 130 #[.pointer (some ⟨c, 0, none⟩), .slice a ON q] W' fun e w' => ∃ a2 n2 q2, e = .returned (.tuple #[.slice a2 n2 q2, .int .i64 0]) ∧ Hid (n2 = (shedR K os).length ∧ StrsAt w' N a2 (shedR K os) ∧ Below W.heap.size W w')) := fun W' hb => by have hq := squashed_all N c d mb sv S K os ho.ok ho.few (by have := ho.len; omega) ho.keys ho.kl ho.whole a q W' (h.below hb) ho.pairs ho.small (olds_of (hst.dupd (DUpd.ofBelow hb))); rw [hON] at hq; exact hq.mono fun e w' ⟨a2, n2, q2, e1, e2, e3⟩ => ⟨a2, n2, q2, e1, (row_slice e2).elim (fun _ ⟨_, e⟩ => by injection e), strs_row e2, hb.trans ((e3.below (Nat.le_refl _)).mono hb.size)⟩
  have h27 : Hid (∀ W', Below W.heap.size W W' → Calls Tryz.prog 27 #[.pointer (some ⟨c, 0, none⟩)] W' fun e w' => e = .returned (.pointer (some ⟨d, 0, none⟩)) ∧ Hid (Below W.heap.size W w') ∧ Hid (Below W'.heap.size W' w')) := fun W' hb => (disk_some c d mb sv K W' (h.below hb).holds).mono fun e w' ⟨e1, e2⟩ => ⟨e1, hb.trans (e2.mono hb.size), e2⟩
  have h131 : Hid (∀ W' a2 n2 q2, Below W.heap.size W W' → n2 = (shedR K os).length → StrsAt W' N a2 (shedR K os) → Calls Tryz.prog 131 #[.pointer (some ⟨d, 0, none⟩), .string F, .slice a2 n2 q2] W' fun e w' => e = .returned (.int .i64 (rnE S F (shedR K os))) ∧ Hid (DiskAt w' N d (rnS S F (shedR K os)) ∧ DUpd N W w')) := fun W' a2 n2 q2 hb hn hs => by
    subst hn
    exact (renew_some N d S F (shedR K os) hcom hF ho.sizes (by have := ho.count; omega) a2 q2 W' (h.disk.below hb) hs hlen (fun i hi => Nat.lt_of_lt_of_le (h.lt i hi) hb.size)).mono fun e w' ⟨e1, e2, e3⟩ => ⟨e1, e2, (DUpd.ofBelow hb).trans e3⟩
  have HB : Hid (∀ W', DUpd N W W' → W'.cell? ⟨bc, 0, none⟩ = some (.pointer (some ⟨c, 0, none⟩)) ∧ W'.cell? ⟨bo, 0, none⟩ = some (.slice a ON q) ∧ W'.cell? ⟨bn, 0, none⟩ = some (.string F)) := fun W' hb => ⟨(h1.dupd hb (by decide) (by decide) (by decide)).at 0 _ rfl, (h2.dupd hb (by decide) (by decide) (by decide)).at 0 _ rfl, (h3.dupd hb (by decide) (by decide) (by decide)).at 0 _ rfl⟩
  have HD : Hid (∀ w', DiskAt w' N d (rnS S F (shedR K os)) ∧ DUpd N W w' → CaskOpen w' N c d mb sv (rnS S F (shedR K os)) K ∧ DUpd N W w') := fun w' hw => ⟨h.dupd hw.2 hw.1, hw.2⟩
  obtain ⟨c1, c2, c3⟩ := HB.out W (DUpd.refl _ _)
  have b0 : Hid (Below W.heap.size W W) := Below.refl _ _
  have b1 : Hid (Below W.heap.size W W.drew) := (Below.refl _ _).drew
  clear h h1 h2 h3 ho hst
  generalize rnE S F (shedR K os) = E at *
  generalize rnS S F (shedR K os) = S2 at *
  go_enter Tryz.func129, Tryz.ntmps129
  go_wp2_with (first
    | (go_at_call 130; refine (h130.out _ b0.out).mono ?_; rintro e w1 ⟨a2, n2, q2, rfl, s1⟩; obtain ⟨k1, k2, k3⟩ := HB.out w1 (DUpd.ofBelow s1.out.2.2)))
  have D1 : Hid (Below W.heap.size W w1.drew) := s1.out.2.2.drew
  have T1 : Hid (StrsAt w1.drew N a2 (shedR K os)) := s1.out.2.1.dupd (DUpd.ofBelow (Below.refl _ w1).drew)
  have n1 : Hid (n2 = (shedR K os).length) := s1.out.1
  have k4 : w1.drew.cell? ⟨bc, 0, none⟩ = some (.pointer (some ⟨c, 0, none⟩)) := k1
  have k5 : w1.drew.cell? ⟨bn, 0, none⟩ = some (.string F) := k3
  clear s1
  go_region_held3 (fun w' => w'.cell? ⟨bc, 0, none⟩ = some (.pointer (some ⟨c, 0, none⟩)) ∧ w'.cell? ⟨bn, 0, none⟩ = some (.string F)) (go_keep) (first
    | (go_at_call 131; refine (h131.out _ _ _ _ u2.out n1.out T2.out).mono ?_; rintro e w3 ⟨rfl, s3⟩; obtain ⟨x1, x2, x3⟩ := HB.out w3 s3.out.2)
    | (go_at_call 27; refine (h27.out _ D1.out).mono ?_; rintro e w2 ⟨rfl, u2, v2⟩; obtain ⟨y1, y2, y3⟩ := HB.out w2 (DUpd.ofBelow u2.out); have T2 : Hid (StrsAt w2 N a2 (shedR K os)) := T1.out.dupd (DUpd.ofBelow v2.out)))
  all_goals
    go_wp2
    go_ret
    exact ⟨rfl, HD.out _ s3.out⟩
set_option maxHeartbeats 1600000 in
set_option maxRecDepth 100000 in
theorem step_rem_all (c d mb bc bo : Nat) (sv : Value) (K : Ck) (N : Lo) (S : Dk) (l : List ByteArray) (ON : Nat) (hON : l.length = ON) (hl : ON ≤ 256) (hsz : ∀ s ∈ l, s.size < 9223372036854775808) (a : Option Addr) (q : Nat) (W : World) (hd : DiskAt W N d S) (hst : StrsAt W N a l) (h : Holds W c (ckV d mb sv K) 28) (h1 : Holds W bc [.pointer (some ⟨c, 0, none⟩)] 22) (h2 : Holds W bo [.slice a ON q] 108) :
    Calls Tryz.prog 132 #[.pointer (some ⟨bc, 0, none⟩), .pointer (some ⟨bo, 0, none⟩)] W fun e w' => e = .returned (.int .i64 (rmAll S l).1) ∧ DiskAt w' N d (rmAll S l).2 ∧ DUpd N W w' := by
  have h27 : Hid (∀ W', Below W.heap.size W W' → Calls Tryz.prog 27 #[.pointer (some ⟨c, 0, none⟩)] W' fun e w' => e = .returned (.pointer (some ⟨d, 0, none⟩)) ∧ Hid (Below W.heap.size W w')) := fun W' hb => (disk_some c d mb sv K W' (h.below hb h.lt)).mono fun e w' ⟨e1, e2⟩ => ⟨e1, hb.trans (e2.mono hb.size)⟩
  have h92 : Hid (∀ W', Below W.heap.size W W' → Calls Tryz.prog 92 #[.pointer (some ⟨d, 0, none⟩), .slice a ON q] W' fun e w' => e = .returned (.int .i64 (rmAll S l).1) ∧ Hid (DiskAt w' N d (rmAll S l).2 ∧ DUpd N W w')) := fun W' hb => by
    have hq := remove_all N d S l hsz a q (by omega) W' (hd.below hb) (hst.dupd (DUpd.ofBelow hb))
    rw [hON] at hq
    exact hq.mono fun e w' ⟨e1, e2, e3⟩ => ⟨e1, e2, (DUpd.ofBelow hb).trans e3⟩
  have HB : Hid (∀ W', DUpd N W W' → W'.cell? ⟨bc, 0, none⟩ = some (.pointer (some ⟨c, 0, none⟩)) ∧ W'.cell? ⟨bo, 0, none⟩ = some (.slice a ON q)) := fun W' hb => ⟨(h1.dupd hb (by decide) (by decide) (by decide)).at 0 _ rfl, (h2.dupd hb (by decide) (by decide) (by decide)).at 0 _ rfl⟩
  obtain ⟨c1, c2⟩ := HB.out W (DUpd.refl _ _)
  have D1 : Hid (Below W.heap.size W W.drew) := (Below.refl _ _).drew
  have k4 : W.drew.cell? ⟨bc, 0, none⟩ = some (.pointer (some ⟨c, 0, none⟩)) := c1
  have k5 : W.drew.cell? ⟨bo, 0, none⟩ = some (.slice a ON q) := c2
  clear h h1 h2 hd hst hsz
  generalize rmAll S l = RR at *
  go_enter Tryz.func132, Tryz.ntmps132
  go_wp2
  go_region_held3 (fun w' => w'.cell? ⟨bc, 0, none⟩ = some (.pointer (some ⟨c, 0, none⟩)) ∧ w'.cell? ⟨bo, 0, none⟩ = some (.slice a ON q)) (go_keep) (first
    | (go_at_call 92; refine (h92.out _ u2.out).mono ?_; rintro e w3 ⟨rfl, u3⟩; obtain ⟨x1, x2⟩ := HB.out w3 u3.out.2)
    | (go_at_call 27; refine (h27.out _ D1.out).mono ?_; rintro e w2 ⟨rfl, u2⟩; obtain ⟨y1, y2⟩ := HB.out w2 (DUpd.ofBelow u2.out)))
  all_goals
    go_wp2
    go_ret
    exact ⟨rfl, u3.out⟩
end Go.Proofs.YtfmmholkeadejaaGreatDoor

/- steps (86) of a cask that has several segments. -/
namespace Go.Proofs.YtfmmholkeadejaaGreatDoor
open Go.RowKit

theorem row_block {W : World} {B : Nat} {v : Value} {ks : List ByteArray} (h : W.ownsRow B 9 1 v ks.length (strV ks)) (hn : 0 < ks.length) : ∃ g q tl, v = .slice (some ⟨g, 0, none⟩) ks.length q ∧ ks.length ≤ q ∧ Holds W g (strV ks ++ tl) 9 := by
  rcases h.2 with ⟨_, h0⟩ | ⟨g, cap, cur, rfl, hb, hh, hl1, hl2, hl3, hl4⟩
  · omega
  · refine ⟨g, cap, cur.toList.drop (ks.length * 1), rfl, hl1, ?_⟩
    unfold Holds
    rw [← hl4, List.take_append_drop, Array.toArray_toList]
    exact hh
set_option maxHeartbeats 0 in
set_option maxRecDepth 100000 in
theorem steps_all (N : Lo) (c d mb : Nat) (sv : Value) (S : Dk) (K : Ck) (l : List Nat) (M : Nat) (hlM : l.length = M + 1) (hM : M ≤ 256) (h19 : ∀ n ∈ l, 1 ≤ n ∧ n ≤ 999999) (x : Nat) (hx : l[M]? = some x) (sb so q : Nat) (w : World) (h : CaskOpen w N c d mb sv S K) (hN : N ≤ w.heap.size) (hT : Tab N w) (hs : ∀ i n, l[i]? = some n → w.cell? ⟨sb, so + i, none⟩ = some (.int .i64 ((n : Nat) : Int))) (hsb : sb < w.heap.size) :
    Calls Tryz.prog 86 #[.pointer (some ⟨c, 0, none⟩), .slice (some ⟨sb, so, none⟩) (M + 1) q] w fun e w' => ∃ g bc bo bn a q', e = .returned (.slice (some ⟨g, 0, none⟩) 4 4) ∧ Holds w' g [.func (.func 20) #[.pointer (some ⟨c, 0, none⟩)] #[], .func (.func 129) #[] #[.pointer (some ⟨bc, 0, none⟩), .pointer (some ⟨bo, 0, none⟩), .pointer (some ⟨bn, 0, none⟩)], .func (.func 132) #[] #[.pointer (some ⟨bc, 0, none⟩), .pointer (some ⟨bo, 0, none⟩)], .func (.func 21) #[.pointer (some ⟨c, 0, none⟩)] #[]] 37 ∧ Holds w' bc [.pointer (some ⟨c, 0, none⟩)] 22 ∧ Holds w' bo [.slice a M q'] 108 ∧ Holds w' bn [.string (fileB K.nm x)] 9 ∧ w'.ownsRow w.heap.size 9 1 (.slice a (M + 1) q') (M + 1) (strV (l.map fun n => fileB K.nm n)) ∧ Below w.heap.size w w' := by
  have hmf : ∀ (fn : Fn) (first cap : Array Value) (w : World), (Instr.makeFunc fn first cap).run Tryz.prog w = .ok (.func fn first cap) w := fun _ _ _ _ => rfl
  have h26 : Hid (∀ W, Hid (Below w.heap.size w W) → Calls Tryz.prog 26 #[.pointer (some ⟨c, 0, none⟩)] W fun e w' => e = .returned (.string K.nm) ∧ Hid (Below w.heap.size w w' ∧ Below W.heap.size W w')) := fun W hb => (name_some c d mb sv K W (h.below hb.out).holds).mono fun e w' ⟨e1, e2⟩ => ⟨e1, hb.out.trans (e2.mono hb.out.size), e2⟩
  have h36 : Hid (∀ W n, n ∈ l → Below w.heap.size w W → Calls Tryz.prog 36 #[.string K.nm, .int .i64 ((n : Nat) : Int)] W fun e w' => e = .returned (.string (fileB K.nm n)) ∧ Hid (Below w.heap.size w w' ∧ Below W.heap.size W w')) := fun W n hn hb => (file_ok N K.nm h.fine.nm n (h19 n hn).1 (h19 n hn).2 W (Nat.le_trans hN hb.size) (hT.on (hb.mono hN))).mono fun e w' ⟨e1, e2⟩ => ⟨e1, hb.trans (e2.mono hb.size), e2⟩
  have hsc : Hid (∀ W i n, l[i]? = some n → Below w.heap.size w W → W.cell? ⟨sb, so + i, none⟩ = some (.int .i64 ((n : Nat) : Int))) := fun W i n hi hb => (hb.cell (p := ⟨sb, so + i, none⟩) hsb).trans (hs i n hi)
  obtain ⟨i9, hi9, hz0, hz1, hz2⟩ := info_parts info9s
  obtain ⟨B, hB⟩ : ∃ B, w.heap.size = B := ⟨_, rfl⟩
  obtain ⟨names, hnm⟩ : ∃ names, l.map (fun n => fileB K.nm n) = names := ⟨_, rfl⟩
  obtain ⟨F, hF⟩ : ∃ F, fileB K.nm x = F := ⟨_, rfl⟩
  have hlen : Hid (names.length = M + 1) := by rw [← hnm]; show _ = _; rw [List.length_map]; exact hlM
  have hlast : Hid (names[M]? = some F) := by rw [← hnm]; show _ = _; rw [List.getElem?_map, hx, ← hF]; rfl
  have hnat : Hid (∀ (i n : Nat), l[i]? = some n → names[i]? = some (fileB K.nm n)) := fun i n hi => by rw [← hnm, List.getElem?_map, hi]; rfl
  have hgetl : Hid (∀ i, i < M + 1 → ∃ n, l[i]? = some n ∧ n ∈ l) := fun i hi => ⟨_, List.getElem?_eq_getElem (by omega), List.getElem_mem _⟩
  rw [hnm, hF]
  have b0 : Hid (∀ o : Obj, Below w.heap.size w (w.alloc o)) := fun o => (Below.refl _ w).alloc (Nat.le_refl _) o
  rw [hB] at h26 h36 hsc b0 ⊢
  have hBh : Hid (w.heap.size = B) := hB
  clear h hT hN hs hnm hF h19 hx hlM
  obtain ⟨nm, hnm⟩ : ∃ nm, K.nm = nm := ⟨_, rfl⟩
  rw [hnm] at h26 h36 hnat
  go_enter Tryz.func86, Tryz.ntmps86
  go_wp2_with fail
  have hBx : Hid (Holds (w.alloc (.cells #[.pointer (some ⟨c, 0, none⟩)] 22)) B [.pointer (some ⟨c, 0, none⟩)] 22) := hB ▸ holds_new w [.pointer (some ⟨c, 0, none⟩)] 22
  go_loopw [5, 12] (fun v p wr => ∃ i : Nat, i ≤ M + 1 ∧ p = .int .i64 (i : Int) ∧ ∃ ka kq, v = .slice ka i kq ∧ Hid (Holds wr B [.pointer (some ⟨c, 0, none⟩)] 22 ∧ wr.ownsRow B 9 1 (.slice ka i kq) i (strV (names.take i)) ∧ Below B w wr)) (fun _ p _ => M + 1 - (intOf p).toNat)
  case atStart => exact ⟨0, Nat.zero_le _, rfl, none, 0, rfl, hBx.out, World.ownsRow_nil _ _ _ _, b0.out _⟩
  case round =>
    obtain ⟨i, hi, rfl, ka, kq, rfl, hJ⟩ := hrel
    rcases Nat.lt_or_ge i (M + 1) with hil | hig
    · obtain ⟨n, hn, hnm2⟩ := hgetl.out i hil
      have c0 := hJ.out.1.at 0 _ rfl
      have s0 := hsc.out wr i n hn hJ.out.2.2
      have hbw : Hid (Below B w wr) := hJ.out.2.2
      obtain ⟨Fn, hFn⟩ : ∃ Fn, fileB nm n = Fn := ⟨_, rfl⟩
      have h36' : Hid (∀ W, Below B w W → Calls Tryz.prog 36 #[.string nm, .int .i64 ((n : Nat) : Int)] W fun e w' => e = .returned (.string Fn) ∧ Hid (Below B w w' ∧ Below W.heap.size W w')) := fun W hb => by rw [← hFn]; exact h36.out W n hnm2 hb
      have hst : Hid (names.take (i + 1) = names.take i ++ [Fn]) := by
        show _ = _
        rw [List.take_add_one, hnat.out i n hn, hFn]
        rfl
      have g1 : (i : Int) < (M : Int) + 1 := by omega
      have g2 : (0 : Int) ≤ (i : Int) := by omega
      have g4 : IntKind.i64.wrap ((i : Int) + 1) = (i : Int) + 1 := by simp [IntKind.wrap, IntKind.bits, IntKind.signed]; omega
      clear hn hnm2 hFn
      go_wp2_with (first
        | (at_builtin; go_loud (refine wpList_append_src rfl _ _ 108 rfl B 9 i9 (.string ⟨#[]⟩) 1 16 Tryz.underlying108 hi9 hz0 hz1 hz2 rfl (by decide) _ _ _ (R2.alloc _) rfl [.string Fn] (some ⟨w2.heap.size, 0, none⟩) 1 1 rfl rfl (fun _ => ⟨_, rfl, new_onek w2 Fn⟩) (by simp [Value.oneCell']) (by unfold maxLen; omega) (by omega) (by simp; omega) ?_; intro v4 w4 own4 grow4 loc4; clear loc4))
        | (go_at_call 36; refine (h36'.out _ u1.out.1).mono ?_; rintro e w2 ⟨rfl, u2⟩; have R2 := row_below (row_below hJ.out.2.1 u1.out.2) u2.out.2; have hsz2 : B ≤ w2.heap.size := (by have := u2.out.1.size; have := hBh.out; omega))
        | (go_at_call 26; refine (h26.out _ hbw).mono ?_; rintro e w1 ⟨rfl, u1⟩))
      have H2 : Holds w2 B [.pointer (some ⟨c, 0, none⟩)] 22 := cask_holds_box (cask_holds_box hJ.out.1 u1.out.2) u2.out.2
      have H4 : Holds w4 B [.pointer (some ⟨c, 0, none⟩)] 22 := grown_holds (R2.alloc _) grow4 (H2.alloc _) (by decide)
      have B4 : Below B w w4 := below_grown (u2.out.1.alloc hsz2 _) grow4 (by simp; omega) (R2.alloc _)
      obtain ⟨a4, c4, rfl⟩ := row_slice own4
      have O4 : Hid (Holds w4 B [.pointer (some ⟨c, 0, none⟩)] 22 ∧ w4.ownsRow B 9 1 (.slice a4 (i + 1) c4) (i + 1) (strV (names.take (i + 1))) ∧ Below B w w4) := ⟨H4, by rw [hst.out, show strV (names.take i ++ [Fn]) = strV (names.take i) ++ [.string Fn] by simp [strV]]; exact own4, B4⟩
      clear own4 grow4 H2 H4 B4 R2
      go_roundw
      case rel => exact ⟨i + 1, by omega, by simp, a4, c4, rfl, O4⟩
      case measure => simp; omega
    · obtain rfl : i = M + 1 := by omega
      have hBs : B ≤ wr.heap.size := by have := hJ.out.2.2.size; have := hBh.out; omega
      have hlm := hlen.out
      obtain ⟨g, kq, tl, ev, hq, HG⟩ := row_block (show wr.ownsRow B 9 1 (.slice ka (M + 1) kq) (names.length) (strV names) by have := hJ.out.2.1; rw [← hlm, List.take_length] at this; rw [← hlm] at *; exact this) (by omega)
      rw [hlm] at ev hq
      injection ev with ev1 ev2 ev3
      subst ev1 ev3
      clear ev2 hlm
      have q1 : ((M : Int) + 1) ≤ (kq : Int) := by omega
      have q3 : (M : Int) ≤ (kq : Int) := by omega
      have hkq : Hid (M + 1 ≤ kq) := hq
      have x0 := hJ.out.1.at 0 _ rfl
      have hNw : Hid ((strV names ++ tl)[M]? = some (.string F)) := by
        have := hlast.out
        show (strV names ++ tl)[M]? = _
        rw [List.getElem?_append_left (by unfold strV; rw [List.length_map, hlen.out]; omega), strV, List.getElem?_map, this]
        rfl
      have hrowf : Hid (wr.ownsRow B 9 1 (.slice (some ⟨g, 0, none⟩) (M + 1) kq) (M + 1) (strV names)) := by
        have := hJ.out.2.1
        rwa [← hlen.out, List.take_length, hlen.out] at this
      have HG0 : Hid (Holds wr g (strV names ++ tl) 9) := HG
      obtain ⟨n1, hn1⟩ : ∃ n1, wr.heap.size = n1 := ⟨_, rfl⟩
      have hlt : g < n1 := by have := HG.lt; omega
      have q2 : (0 : Int) ≤ (kq : Int) := by omega
      have q4 : (0 : Int) ≤ (M : Int) := by omega
      have wz : IntKind.i64.wrap (M : Int) = (M : Int) := by simp [IntKind.wrap, IntKind.bits, IntKind.signed]; omega
      have y0 : (wr).drew.cell? ⟨g, M, none⟩ = some (.string F) := (HG).at M _ hNw.out
      have y1 : (wr.alloc (.cells #[.string ⟨#[]⟩] 9)).drew.cell? ⟨g, M, none⟩ = some (.string F) := (HG.alloc (.cells #[.string ⟨#[]⟩] 9)).at M _ hNw.out
      have y2 : (wr.alloc (.cells #[.slice none 0 0] 108)).drew.cell? ⟨g, M, none⟩ = some (.string F) := (HG.alloc (.cells #[.slice none 0 0] 108)).at M _ hNw.out
      have y3 : (wr.alloc (.cells #[.slice (some ⟨g, 0, none⟩) M kq] 108)).drew.cell? ⟨g, M, none⟩ = some (.string F) := (HG.alloc (.cells #[.slice (some ⟨g, 0, none⟩) M kq] 108)).at M _ hNw.out
      have y4 : ((wr.alloc (.cells #[.string ⟨#[]⟩] 9)).alloc (.cells #[.slice none 0 0] 108)).drew.cell? ⟨g, M, none⟩ = some (.string F) := ((HG.alloc (.cells #[.string ⟨#[]⟩] 9)).alloc (.cells #[.slice none 0 0] 108)).at M _ hNw.out
      have y5 : ((wr.alloc (.cells #[.string ⟨#[]⟩] 9)).alloc (.cells #[.slice (some ⟨g, 0, none⟩) M kq] 108)).drew.cell? ⟨g, M, none⟩ = some (.string F) := ((HG.alloc (.cells #[.string ⟨#[]⟩] 9)).alloc (.cells #[.slice (some ⟨g, 0, none⟩) M kq] 108)).at M _ hNw.out
      have y6 : ((wr.alloc (.cells #[.slice none 0 0] 108)).alloc (.cells #[.string ⟨#[]⟩] 9)).drew.cell? ⟨g, M, none⟩ = some (.string F) := ((HG.alloc (.cells #[.slice none 0 0] 108)).alloc (.cells #[.string ⟨#[]⟩] 9)).at M _ hNw.out
      have y7 : ((wr.alloc (.cells #[.slice (some ⟨g, 0, none⟩) M kq] 108)).alloc (.cells #[.string ⟨#[]⟩] 9)).drew.cell? ⟨g, M, none⟩ = some (.string F) := ((HG.alloc (.cells #[.slice (some ⟨g, 0, none⟩) M kq] 108)).alloc (.cells #[.string ⟨#[]⟩] 9)).at M _ hNw.out
      clear HG
      go_wp2
      go_region
      · have Xa : Holds ((wr.alloc (.cells #[.slice (some ⟨g, 0, none⟩) M kq] 108)).alloc (.cells #[.string F] 9)).drew n1 [.slice (some ⟨g, 0, none⟩) M kq] 108 := ((hn1 ▸ holds_new wr [.slice (some ⟨g, 0, none⟩) M kq] 108 : Holds (wr.alloc (.cells #[.slice (some ⟨g, 0, none⟩) M kq] 108)) n1 [.slice (some ⟨g, 0, none⟩) M kq] 108).alloc (.cells #[.string F] 9))
        have Xb : Holds ((wr.alloc (.cells #[.slice (some ⟨g, 0, none⟩) M kq] 108)).alloc (.cells #[.string F] 9)).drew (n1 + 1) [.string F] 9 := (show Holds ((wr.alloc (.cells #[.slice (some ⟨g, 0, none⟩) M kq] 108)).alloc (.cells #[.string F] 9)) (n1 + 1) [.string F] 9 by have := holds_new (wr.alloc (.cells #[.slice (some ⟨g, 0, none⟩) M kq] 108)) [.string F] 9; rw [World.size_alloc, hn1] at this; exact this)
        have Xc : Holds ((wr.alloc (.cells #[.slice (some ⟨g, 0, none⟩) M kq] 108)).alloc (.cells #[.string F] 9)).drew B [.pointer (some ⟨c, 0, none⟩)] 22 := (hJ.out.1.alloc (.cells #[.slice (some ⟨g, 0, none⟩) M kq] 108)).alloc (.cells #[.string F] 9)
        have Xr : Below wr.heap.size wr ((wr.alloc (.cells #[.slice (some ⟨g, 0, none⟩) M kq] 108)).alloc (.cells #[.string F] 9)).drew := (((Below.refl _ wr).alloc (Nat.le_refl _) _).alloc (by simp) _).drew
        have XR := row_below hrowf.out Xr
        clear Xr
        have Xw : Below B w ((wr.alloc (.cells #[.slice (some ⟨g, 0, none⟩) M kq] 108)).alloc (.cells #[.string F] 9)).drew := ((hJ.out.2.2.alloc hBs _).alloc (by simp; omega) _).drew
        clear y0 y1 y2 y3 y4 y5 y6 y7 x0
        generalize ((wr.alloc (.cells #[.slice (some ⟨g, 0, none⟩) M kq] 108)).alloc (.cells #[.string F] 9)).drew = V at *
        have z0 := Xc.at 0 _ rfl
        have Xa : Hid _ := Xa
        have Xb : Hid _ := Xb
        have Xc : Hid _ := Xc
        have Xw : Hid _ := Xw
        have XR : Hid _ := XR
        obtain ⟨v, hv⟩ : ∃ v, V.heap.size = v := ⟨_, rfl⟩
        have z1 : V.drew.cell? ⟨B, 0, none⟩ = some (.pointer (some ⟨c, 0, none⟩)) := z0
        clear hn1 hJ HG0 hNw
        go_wp2
        go_ret
        exact ⟨v, B, n1, (n1 + 1), _, _, rfl, hv ▸ holds_new V [.func (.func 20) #[.pointer (some ⟨c, 0, none⟩)] #[], .func (.func 129) #[] #[.pointer (some ⟨B, 0, none⟩), .pointer (some ⟨n1, 0, none⟩), .pointer (some ⟨(n1 + 1), 0, none⟩)], .func (.func 132) #[] #[.pointer (some ⟨B, 0, none⟩), .pointer (some ⟨n1, 0, none⟩)], .func (.func 21) #[.pointer (some ⟨c, 0, none⟩)] #[]] 37, Holds.alloc Xc.out _, Holds.alloc Xa.out _, Holds.alloc Xb.out _, row_below XR.out ((Below.refl _ V).alloc (Nat.le_refl _) _), Xw.out.alloc (by have := Xw.out.size; have := hBh.out; omega) _⟩
      · have Xa : Holds ((wr.alloc (.cells #[.string F] 9)).alloc (.cells #[.slice (some ⟨g, 0, none⟩) M kq] 108)).drew n1 [.string F] 9 := ((hn1 ▸ holds_new wr [.string F] 9 : Holds (wr.alloc (.cells #[.string F] 9)) n1 [.string F] 9).alloc (.cells #[.slice (some ⟨g, 0, none⟩) M kq] 108))
        have Xb : Holds ((wr.alloc (.cells #[.string F] 9)).alloc (.cells #[.slice (some ⟨g, 0, none⟩) M kq] 108)).drew (n1 + 1) [.slice (some ⟨g, 0, none⟩) M kq] 108 := (show Holds ((wr.alloc (.cells #[.string F] 9)).alloc (.cells #[.slice (some ⟨g, 0, none⟩) M kq] 108)) (n1 + 1) [.slice (some ⟨g, 0, none⟩) M kq] 108 by have := holds_new (wr.alloc (.cells #[.string F] 9)) [.slice (some ⟨g, 0, none⟩) M kq] 108; rw [World.size_alloc, hn1] at this; exact this)
        have Xc : Holds ((wr.alloc (.cells #[.string F] 9)).alloc (.cells #[.slice (some ⟨g, 0, none⟩) M kq] 108)).drew B [.pointer (some ⟨c, 0, none⟩)] 22 := (hJ.out.1.alloc (.cells #[.string F] 9)).alloc (.cells #[.slice (some ⟨g, 0, none⟩) M kq] 108)
        have Xr : Below wr.heap.size wr ((wr.alloc (.cells #[.string F] 9)).alloc (.cells #[.slice (some ⟨g, 0, none⟩) M kq] 108)).drew := (((Below.refl _ wr).alloc (Nat.le_refl _) _).alloc (by simp) _).drew
        have XR := row_below hrowf.out Xr
        clear Xr
        have Xw : Below B w ((wr.alloc (.cells #[.string F] 9)).alloc (.cells #[.slice (some ⟨g, 0, none⟩) M kq] 108)).drew := ((hJ.out.2.2.alloc hBs _).alloc (by simp; omega) _).drew
        clear y0 y1 y2 y3 y4 y5 y6 y7 x0
        generalize ((wr.alloc (.cells #[.string F] 9)).alloc (.cells #[.slice (some ⟨g, 0, none⟩) M kq] 108)).drew = V at *
        have z0 := Xc.at 0 _ rfl
        have Xa : Hid _ := Xa
        have Xb : Hid _ := Xb
        have Xc : Hid _ := Xc
        have Xw : Hid _ := Xw
        have XR : Hid _ := XR
        obtain ⟨v, hv⟩ : ∃ v, V.heap.size = v := ⟨_, rfl⟩
        have z1 : V.drew.cell? ⟨B, 0, none⟩ = some (.pointer (some ⟨c, 0, none⟩)) := z0
        clear hn1 hJ HG0 hNw
        go_wp2
        go_ret
        exact ⟨v, B, (n1 + 1), n1, _, _, rfl, hv ▸ holds_new V [.func (.func 20) #[.pointer (some ⟨c, 0, none⟩)] #[], .func (.func 129) #[] #[.pointer (some ⟨B, 0, none⟩), .pointer (some ⟨(n1 + 1), 0, none⟩), .pointer (some ⟨n1, 0, none⟩)], .func (.func 132) #[] #[.pointer (some ⟨B, 0, none⟩), .pointer (some ⟨(n1 + 1), 0, none⟩)], .func (.func 21) #[.pointer (some ⟨c, 0, none⟩)] #[]] 37, Holds.alloc Xc.out _, Holds.alloc Xb.out _, Holds.alloc Xa.out _, row_below XR.out ((Below.refl _ V).alloc (Nat.le_refl _) _), Xw.out.alloc (by have := Xw.out.size; have := hBh.out; omega) _⟩
end Go.Proofs.YtfmmholkeadejaaGreatDoor

/- Squash (39) of a cask that has several segments, while the power stays. -/
namespace Go.Proofs.YtfmmholkeadejaaGreatDoor
open Go.RowKit

theorem strs_hold {W : World} {N : Lo} {ng : Nat} {rs : List ByteArray} {tl : List Value} (h : Holds W ng (strV rs ++ tl) 9) : StrsAt W N (some ⟨ng, 0, none⟩) rs := by
  have hh := h
  unfold Holds at hh
  refine .inr ⟨ng, 0, rfl, h.lt, .inr ⟨_, _, _, hh, by decide, by decide, by decide⟩, fun i x hx => ?_⟩
  rw [Nat.zero_add]
  refine h.at i _ ?_
  have hi := (List.getElem?_eq_some_iff.1 hx).1
  rw [List.getElem?_append_left (by simp [strV]; exact hi)]
  simp [strV, hx]
/-- The names of the older segments. -/
def oldN (nm : ByteArray) (os : List Sg) : List ByteArray := os.map fun x => fileB nm x.n
/-- The cask, and its segments' numbers in a list. -/
def SqM (w0 : World) (N : Lo) (c d mb : Nat) (S : Dk) (K : Ck) (l : List Nat) (sb : Nat) (W : World) : Prop := Cur w0 W N c d mb S K ∧ (∀ i n, l[i]? = some n → W.cell? ⟨sb, 0 + i, none⟩ = some (.int .i64 ((n : Nat) : Int))) ∧ sb < W.heap.size
theorem SqM.below {w0 W W' : World} {N : Lo} {c d mb : Nat} {S : Dk} {K : Ck} {l : List Nat} {sb : Nat} (h : SqM w0 N c d mb S K l sb W) (hb : Below W.heap.size W W') : SqM w0 N c d mb S K l sb W' :=
  ⟨h.1.below hb, fun i n hi => (hb.cell (p := ⟨sb, 0 + i, none⟩) h.2.2).trans (h.2.1 i n hi), Nat.lt_of_lt_of_le h.2.2 hb.size⟩
/-- The boxes of the steps. -/
structure SBxA (c g bc bo bn ng : Nat) (M q : Nat) (F : ByteArray) (names : List ByteArray) (W : World) : Prop where
  fs : Holds W g [.func (.func 20) #[.pointer (some ⟨c, 0, none⟩)] #[], .func (.func 129) #[] #[.pointer (some ⟨bc, 0, none⟩), .pointer (some ⟨bo, 0, none⟩), .pointer (some ⟨bn, 0, none⟩)], .func (.func 132) #[] #[.pointer (some ⟨bc, 0, none⟩), .pointer (some ⟨bo, 0, none⟩)], .func (.func 21) #[.pointer (some ⟨c, 0, none⟩)] #[]] 37
  bc : Holds W bc [.pointer (some ⟨c, 0, none⟩)] 22
  bo : Holds W bo [.slice (some ⟨ng, 0, none⟩) M q] 108
  bn : Holds W bn [.string F] 9
  row : ∃ tl, Holds W ng (strV names ++ tl) 9
theorem SBxA.oth {c g bc bo bn ng M q : Nat} {F : ByteArray} {names : List ByteArray} {W W' : World} (h : SBxA c g bc bo bn ng M q F names W) (ho : Oth W W') : SBxA c g bc bo bn ng M q F names W' :=
  ⟨h.fs.oth ho (by decide) (by decide) (by decide) (by decide) (by decide), h.bc.oth ho (by decide) (by decide) (by decide) (by decide) (by decide), h.bo.oth ho (by decide) (by decide) (by decide) (by decide) (by decide), h.bn.oth ho (by decide) (by decide) (by decide) (by decide) (by decide), by
    obtain ⟨tl, q⟩ := h.row
    exact ⟨tl, q.oth ho (by decide) (by decide) (by decide) (by decide) (by decide)⟩⟩
/-- The disk behind the second and the third step. -/
def sqS2 (S : Dk) (K : Ck) (os : List Sg) (n : Nat) : Dk := rnS (csS S K) (fileB K.nm n) (shedR (csK S K) os)
def sqS3 (S : Dk) (K : Ck) (os : List Sg) (n : Nat) : Dk := (rmAll (sqS2 S K os n) (oldN K.nm os)).2
/-- What is asked of a squash that goes through. -/
structure SqAll (S : Dk) (K : Ck) (os : List Sg) (n : Nat) (L : List Sg) : Prop where
  ok : K.broken = false
  segs : K.segs = os.map Sg.n ++ [n]
  nums : ∀ m ∈ os.map Sg.n ++ [n], 1 ≤ m ∧ m ≤ 999999
  dead : os ≠ [] ∨ K.recs - (K.kv.length : Int) ≠ 0
  size : (fileB K.nm n).size ≤ 32
  com : nameOk (comB (fileB K.nm n)) = true
  shed : ShOk (csS S K) (csK S K) os
  sync : csE S K = 0
  files : (csS S K).fs.length < 256
  ren : rnE (csS S K) (fileB K.nm n) (shedR (csK S K) os) = 0
  names : ∀ s ∈ oldN K.nm os, s.size < 9223372036854775808
  rem : (rmAll (sqS2 S K os n) (oldN K.nm os)).1 = 0
  on : (sqS3 S K os n).on = true
  sound : Sound (sqS3 S K os n) K.nm L
  load : ldE (sqS3 S K os n) K.nm L = 0
  long : L.length ≤ 256
  many : (L.flatMap Sg.cs).length ≤ 16777215
  same : (csK S K).nm = K.nm ∧ (csK S K).broken = false
set_option maxHeartbeats 1600000 in
theorem order_all {w0 W : World} {N : Lo} {c d mb : Nat} {S : Dk} {K : Ck} {os : List Sg} {n : Nat} {L : List Sg} (hg : SqAll S K os n L) (h : Cur w0 W N c d mb S K) (g bc bo bn ng : Nat) (q q4 : Nat) (hx : SBxA c g bc bo bn ng os.length q (fileB K.nm n) (oldN K.nm os) W) :
    Calls Tryz.prog 85 #[.slice (some ⟨g, 0, none⟩) 4 q4] W fun e w' => e = .returned (.int .i64 0) ∧ ∃ mb2, Cur w0 w' (N.with mb2) c d mb2 (ldS (sqS3 S K os n) K.nm L) (ldK K.nm L) := by
  obtain ⟨s1, s3⟩ := hg.same
  have := inOrder_steps (fun W => Cur w0 W N c d mb S K ∧ SBxA c g bc bo bn ng os.length q (fileB K.nm n) (oldN K.nm os) W) (fun W => Cur w0 W N c d mb (csS S K) (csK S K) ∧ SBxA c g bc bo bn ng os.length q (fileB K.nm n) (oldN K.nm os) W) (fun W => Cur w0 W N c d mb (sqS2 S K os n) (csK S K) ∧ SBxA c g bc bo bn ng os.length q (fileB K.nm n) (oldN K.nm os) W) (fun W => Cur w0 W N c d mb (sqS3 S K os n) (csK S K) ∧ SBxA c g bc bo bn ng os.length q (fileB K.nm n) (oldN K.nm os) W)
    (fun w' => ∃ mb2, Cur w0 w' (N.with mb2) c d mb2 (ldS (sqS3 S K os n) K.nm L) (ldK K.nm L)) 0 0 0 0 g q4 c bc bo bn W
    (fun W hW => by
      rcases hW with hW | hW | hW | hW
      all_goals exact ⟨hW.2.fs.at 0 _ rfl, hW.2.fs.at 1 _ rfl, hW.2.fs.at 2 _ rfl, hW.2.fs.at 3 _ rfl⟩)
    (fun W hW => (cur_sync hW.1 hg.ok).mono fun e w' ⟨e1, e2, e3⟩ => ⟨by rw [e1, hg.sync], e2, hW.2.oth e3⟩)
    (fun W hW => by
      obtain ⟨sv, o⟩ := hW.1.op
      obtain ⟨tl, hrow⟩ := hW.2.row
      have hsh := step_shed_all N c d mb bc bo bn sv (csS S K) (csK S K) (fileB K.nm n) hg.size hg.com os os.length rfl hg.shed hg.files (some ⟨ng, 0, none⟩) q W o hW.2.bc (by rw [s1]; exact strs_hold hrow) hW.2.bo hW.2.bn
      rw [hg.ren] at hsh
      exact hsh.mono fun e w' ⟨e1, e2, e3⟩ => ⟨e1, hW.1.disked e3 e2.disk, hW.2.oth (Oth.ofD e3)⟩)
    (fun W hW => by
      obtain ⟨sv, o⟩ := hW.1.op
      obtain ⟨tl, hrow⟩ := hW.2.row
      have hrm := step_rem_all c d mb bc bo sv (csK S K) N (sqS2 S K os n) (oldN K.nm os) os.length (by simp [oldN]) hg.shed.len hg.names (some ⟨ng, 0, none⟩) q W hW.1.disk (strs_hold hrow) o.holds hW.2.bc hW.2.bo
      rw [hg.rem] at hrm
      exact hrm.mono fun e w' ⟨e1, e2, e3⟩ => ⟨e1, hW.1.disked e3 e2, hW.2.oth (Oth.ofD e3)⟩)
    (fun W hW => by
      have := cur_reopen2 hW.1 hg.on s3 L (by rw [s1]; exact hg.sound) (by rw [s1]; exact hg.load) hg.long hg.many
      rw [s1] at this
      exact this)
    ⟨h, hx⟩
  refine this.mono fun e w' ⟨e1, e2⟩ => ⟨e1, ?_⟩
  simpa [sq4I] using e2
set_option maxHeartbeats 3200000 in
set_option maxRecDepth 100000 in
theorem squash_all {w0 W : World} {N : Lo} {c d mb : Nat} {S : Dk} {K : Ck} {os : List Sg} {n : Nat} {L : List Sg} (hg : SqAll S K os n L) (h : Cur w0 W N c d mb S K) (R : Int) (hR : K.recs - (ldK K.nm L).recs = R) :
    Calls Tryz.prog 39 #[.pointer (some ⟨c, 0, none⟩)] W fun e w' => e = .returned (.tuple #[.int .i64 R, .int .i64 0]) ∧ ∃ mb2, Cur w0 w' (N.with mb2) c d mb2 (ldS (sqS3 S K os n) K.nm L) (ldK K.nm L) := by
  obtain ⟨M, hM⟩ : ∃ M, os.length = M := ⟨_, rfl⟩
  have hlM : (os.map Sg.n ++ [n]).length = M + 1 := by simp [hM]
  have h24 : Hid (Calls Tryz.prog 24 #[.pointer (some ⟨c, 0, none⟩)] W fun e w' => ∃ sb q, e = .returned (.slice (some ⟨sb, 0, none⟩) (M + 1) q) ∧ Hid (SqM w0 N c d mb S K (os.map Sg.n ++ [n]) sb w')) := by
    obtain ⟨sv, o⟩ := h.op
    refine (segments_some N c d mb sv S K W o).mono fun e w' ⟨v, e1, e2, e3⟩ => ?_
    rw [hg.segs] at e2
    rcases e2.2 with ⟨_, h0⟩ | ⟨sb, cap, cur, rfl, hb, hh, hl1, hl2, hl3, hl4⟩
    · simp at h0
    · rw [hlM] at e1
      refine ⟨sb, cap, e1, h.below e3, fun i m hi => ?_, (Array.getElem?_eq_some_iff.1 hh).1⟩
      have hH : Holds w' sb (segV (os.map Sg.n ++ [n]) ++ cur.toList.drop ((os.map Sg.n ++ [n]).length * 1)) 3 := by
        unfold Holds
        rw [← hl4, List.take_append_drop, Array.toArray_toList]
        exact hh
      rw [Nat.zero_add]
      refine hH.at i _ ?_
      have hi' := (List.getElem?_eq_some_iff.1 hi).1
      rw [List.getElem?_append_left (by unfold segV; rw [List.length_map]; exact hi'), segV, List.getElem?_map, hi]
      rfl
  have h27 : Hid (∀ W' sb, Hid (SqM w0 N c d mb S K (os.map Sg.n ++ [n]) sb W') → Calls Tryz.prog 27 #[.pointer (some ⟨c, 0, none⟩)] W' fun e w' => e = .returned (.pointer (some ⟨d, 0, none⟩)) ∧ Hid (SqM w0 N c d mb S K (os.map Sg.n ++ [n]) sb w')) := fun W' sb h => by
    obtain ⟨sv, o⟩ := h.out.1.op
    exact (disk_some c d mb sv K W' o.holds).mono fun e w' ⟨e1, e2⟩ => ⟨e1, h.out.below e2⟩
  have h28 : Hid (∀ W' sb, Hid (SqM w0 N c d mb S K (os.map Sg.n ++ [n]) sb W') → Calls Tryz.prog 28 #[.pointer (some ⟨c, 0, none⟩)] W' fun e w' => e = .returned (.bool false) ∧ w' = W') := fun W' sb h => by
    have := cur_broken h.out.1
    rw [hg.ok] at this
    exact this
  obtain ⟨D, hD⟩ : ∃ D, K.recs - (K.kv.length : Int) = D := ⟨_, rfl⟩
  have h25 : Hid (∀ W' sb, Hid (SqM w0 N c d mb S K (os.map Sg.n ++ [n]) sb W') → Calls Tryz.prog 25 #[.pointer (some ⟨c, 0, none⟩)] W' fun e w' => e = .returned (.int .i64 D) ∧ Hid (SqM w0 N c d mb S K (os.map Sg.n ++ [n]) sb w')) := fun W' sb h => by
    obtain ⟨sv, o⟩ := h.out.1.op
    have := dead_some N c d mb sv S K W' o
    rw [hD] at this
    exact this.mono fun e w' ⟨e1, e2⟩ => ⟨e1, h.out.below e2⟩
  obtain ⟨R1, hR1⟩ : ∃ R1, K.recs = R1 := ⟨_, rfl⟩
  have h84 : Hid (∀ W' sb, Hid (SqM w0 N c d mb S K (os.map Sg.n ++ [n]) sb W') → Calls Tryz.prog 84 #[.pointer (some ⟨c, 0, none⟩)] W' fun e w' => e = .returned (.int .i64 R1) ∧ Hid (SqM w0 N c d mb S K (os.map Sg.n ++ [n]) sb w')) := fun W' sb h => by
    obtain ⟨sv, o⟩ := h.out.1.op
    exact (recs_any N c d mb sv S K R1 hR1.symm W' o).mono fun e w' ⟨e1, e2⟩ => ⟨e1, h.out.below e2⟩
  have h86 : Hid (∀ W' sb q, Hid (SqM w0 N c d mb S K (os.map Sg.n ++ [n]) sb W') → Calls Tryz.prog 86 #[.pointer (some ⟨c, 0, none⟩), .slice (some ⟨sb, 0, none⟩) (M + 1) q] W' fun e w' => ∃ g, e = .returned (.slice (some ⟨g, 0, none⟩) 4 4) ∧ Hid (Cur w0 w' N c d mb S K ∧ ∃ bc bo bn ng q', SBxA c g bc bo bn ng os.length q' (fileB K.nm n) (oldN K.nm os) w')) := fun W' sb q h => by
    obtain ⟨sv, o⟩ := h.out.1.op
    refine (steps_all N c d mb sv S K (os.map Sg.n ++ [n]) M hlM (by have := hg.shed.len; omega) hg.nums n (by rw [List.getElem?_append_right (by simp [hM])]; simp [hM]) sb 0 q W' o h.out.1.sz h.out.1.tab h.out.2.1 h.out.2.2).mono fun e w' ⟨g, bc, bo, bn, a, q', e1, e2, e3, e4, e5, e6, e7⟩ => ?_
    have hml : ((os.map Sg.n ++ [n]).map fun m => fileB K.nm m).length = M + 1 := by rw [List.length_map]; exact hlM
    rw [← hml] at e6
    obtain ⟨ng, q2, tl, ev, hq, hH⟩ := row_block e6 (by rw [hml]; omega)
    injection ev with ev1 ev2 ev3
    subst ev1
    rw [hM]
    refine ⟨g, e1, h.out.1.below e7, bc, bo, bn, ng, q', e2, e3, e4, e5, [.string (fileB K.nm n)] ++ tl, ?_⟩
    have : strV ((os.map Sg.n ++ [n]).map fun m => fileB K.nm m) = strV (oldN K.nm os) ++ [.string (fileB K.nm n)] := by simp [strV, oldN]
    rw [this, List.append_assoc] at hH
    exact hH
  have h85 : Hid (∀ W' g, Hid (Cur w0 W' N c d mb S K ∧ ∃ bc bo bn ng q', SBxA c g bc bo bn ng os.length q' (fileB K.nm n) (oldN K.nm os) W') → Calls Tryz.prog 85 #[.slice (some ⟨g, 0, none⟩) 4 4] W' fun e w' => e = .returned (.int .i64 0) ∧ Hid (∃ mb2, Cur w0 w' (N.with mb2) c d mb2 (ldS (sqS3 S K os n) K.nm L) (ldK K.nm L))) := fun W' g h => by
    obtain ⟨bc, bo, bn, ng, q', hx⟩ := h.out.2
    exact order_all hg h.out.1 g bc bo bn ng q' 4 hx
  obtain ⟨R2, hR2⟩ : ∃ R2, (ldK K.nm L).recs = R2 := ⟨_, rfl⟩
  have h84b : Hid (∀ W', Hid (∃ mb2, Cur w0 W' (N.with mb2) c d mb2 (ldS (sqS3 S K os n) K.nm L) (ldK K.nm L)) → Calls Tryz.prog 84 #[.pointer (some ⟨c, 0, none⟩)] W' fun e w' => e = .returned (.int .i64 R2) ∧ Hid (∃ mb2, Cur w0 w' (N.with mb2) c d mb2 (ldS (sqS3 S K os n) K.nm L) (ldK K.nm L))) := fun W' h => by
    obtain ⟨mb2, h⟩ := h.out
    obtain ⟨sv, o⟩ := h.op
    exact (recs_any (N.with mb2) c d mb2 sv _ _ R2 hR2.symm W' o).mono fun e w' ⟨e1, e2⟩ => ⟨e1, mb2, h.below e2⟩
  have hw : IntKind.i64.wrap (R1 - R2) = R := by
    have f1 := h.fine.recs
    have f2 := hg.many
    have f3 : (ldK K.nm L).recs = ((L.flatMap Sg.cs).length : Int) := rfl
    rw [← hR, hR1, hR2]
    rw [f3] at hR2
    rw [hR1] at f1
    simp [IntKind.wrap, IntKind.bits, IntKind.signed]
    omega
  generalize ldS (sqS3 S K os n) K.nm L = S3 at *
  generalize ldK K.nm L = K3 at *
  have hdead : M ≠ 0 ∨ D ≠ 0 := by
    rcases hg.dead with q | q
    · exact .inl (fun e => q (List.eq_nil_of_length_eq_zero (hM.trans e)))
    · exact .inr (by rw [← hD]; exact q)
  have hMs : M ≤ 256 := by have := hg.shed.len; omega
  clear h hg hR hD hR1 hR2 hM hlM
  rcases Nat.eq_zero_or_pos M with rfl | hM0
  · have hD0 : (D == 0) = false := beq_eq_false_iff_ne.2 (hdead.elim (fun q => absurd rfl q) id)
    clear hdead
    go_enter Tryz.func39, Tryz.ntmps39
    go_wp2_with (first
      | (go_at_call 84; refine (h84b.out _ t6).mono ?_; rintro e w7 ⟨rfl, t7⟩)
      | (go_at_call 85; refine (h85.out _ _ t5).mono ?_; rintro e w6 ⟨rfl, t6⟩)
      | (go_at_call 86; refine (h86.out _ _ _ t4).mono ?_; rintro e w5 ⟨g, rfl, t5⟩)
      | (go_at_call 84; refine (h84.out _ _ t3).mono ?_; rintro e w4 ⟨rfl, t4⟩)
      | (go_at_call 25; refine (h25.out _ _ t2).mono ?_; rintro e w3 ⟨rfl, t3⟩)
      | (go_at_call 28; refine (h28.out _ _ t2).mono ?_; rintro e wb ⟨rfl, eb⟩; rw [eb]; clear eb)
      | (go_at_call 27; refine (h27.out _ _ t1).mono ?_; rintro e w2 ⟨rfl, t2⟩)
      | (go_at_call 24; refine h24.out.mono ?_; rintro e w1 ⟨sb, q, rfl, t1⟩))
    go_ret2
    exact ⟨rfl, t7.out⟩
  · have hn0 : ((M : Int) + 1 == 0) = false := beq_eq_false_iff_ne.2 (by omega)
    have hn1 : ((M : Int) + 1 == 1) = false := beq_eq_false_iff_ne.2 (by omega)
    have hn2 : ((M : Int) == 0) = false := beq_eq_false_iff_ne.2 (by omega)
    clear hdead
    go_enter Tryz.func39, Tryz.ntmps39
    go_wp2_with (first
      | (go_at_call 84; refine (h84b.out _ t6).mono ?_; rintro e w7 ⟨rfl, t7⟩)
      | (go_at_call 85; refine (h85.out _ _ t5).mono ?_; rintro e w6 ⟨rfl, t6⟩)
      | (go_at_call 86; refine (h86.out _ _ _ t4).mono ?_; rintro e w5 ⟨g, rfl, t5⟩)
      | (go_at_call 84; refine (h84.out _ _ t2).mono ?_; rintro e w4 ⟨rfl, t4⟩)
      | (go_at_call 28; refine (h28.out _ _ t2).mono ?_; rintro e wb ⟨rfl, eb⟩; rw [eb]; clear eb)
      | (go_at_call 27; refine (h27.out _ _ t1).mono ?_; rintro e w2 ⟨rfl, t2⟩)
      | (go_at_call 24; refine h24.out.mono ?_; rintro e w1 ⟨sb, q, rfl, t1⟩))
    go_ret2
    exact ⟨rfl, t7.out⟩
end Go.Proofs.YtfmmholkeadejaaGreatDoor
