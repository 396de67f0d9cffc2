/- SqLease, SqIn. -/
import Derived.Test.YtfmmholkeadejaaGreatDoorZSqRenew
import Derived.Test.YtfmmholkeadejaaGreatDoorZC0
/- A lease as bytes, and back. -/
namespace Go.Proofs.YtfmmholkeadejaaGreatDoor
open Go.RowKit

def lsL (v : Nat) : List UInt8 := Pk.frameL (Pk.strL (Pk.numL v))
def lsB (v : Nat) : ByteArray := Pk.strL (lsL v)
theorem numL_small (v : Nat) (hv : v < 18446744073709551616) : (Pk.strL (Pk.numL v)).size ≤ 10 := by
  rw [Pk.strL_size]; exact Pk.numL_len10 v hv
set_option maxHeartbeats 1600000 in
set_option maxRecDepth 100000 in
theorem lease_bytes (v : Nat) (hv : v < 18446744073709551616) (w : World) :
    Calls Tryz.prog 140 #[.agg #[.int .u64 (v : Int)]] w fun e w' => e = .returned (.string (lsB v)) ∧ Below w.heap.size w w' := by
  obtain ⟨n, hn⟩ : ∃ n, w.heap.size = n := ⟨_, rfl⟩
  have hz := numL_small v hv
  have hl10 := Pk.numL_len10 v hv
  have hW0 : Pk.Wr ((w.alloc (.cells #[.int .u64 (v : Int)] 70)).alloc (.cells #[.slice none 0 0] 131)) (n + 1) [] := by
    have := Pk.wr_new (w.alloc (.cells #[.int .u64 (v : Int)] 70))
    rw [World.size_alloc, hn] at this
    exact this
  have hb0 : Below n w ((w.alloc (.cells #[.int .u64 (v : Int)] 70)).alloc (.cells #[.slice none 0 0] 131)) := ((Below.refl _ _).alloc (by omega) _).alloc (by simp; omega) _
  have hz0 : ((w.alloc (.cells #[.int .u64 (v : Int)] 70)).alloc (.cells #[.slice none 0 0] 131)).heap.size = n + 1 + 1 := by simp [hn]
  have h181 : Hid (Calls Tryz.prog 181 #[.pointer (some ⟨n + 1, 0, none⟩), .slice (some ⟨n + 1 + 1, 0, none⟩) 1 1] (((w.alloc (.cells #[.int .u64 (v : Int)] 70)).alloc (.cells #[.slice none 0 0] 131)).alloc (.cells #[.int .u64 (v : Int)] 68)) fun e w' => e = .returned (.pointer (some ⟨n + 1, 0, none⟩)) ∧ Pk.Wr w' (n + 1) (Pk.numL v) ∧ Pk.WUpd (n + 1) ((w.alloc (.cells #[.int .u64 (v : Int)] 70)).alloc (.cells #[.slice none 0 0] 131)) w') := by
    have := Pk.wnums_one (n + 1) [] v hv _ (n + 1 + 1) hz0 hW0 (by simp; omega)
    rw [List.nil_append] at this
    exact this
  have h76 : Hid (∀ W, Pk.Wr W (n + 1) (Pk.numL v) → Calls Tryz.prog 76 #[.pointer (some ⟨n + 1, 0, none⟩)] W fun e w' => e = .returned (.string (Pk.strL (Pk.numL v))) ∧ w' = W) := fun W hW => Pk.bytes_some (n + 1) _ W hW
  have h75 : Hid (∀ W, Calls Tryz.prog 75 #[.string (Pk.strL (Pk.numL v))] W fun e w' => e = .returned (.tuple #[.string (lsB v), .int .i64 0]) ∧ Below W.heap.size W w') := fun W => Pk.frame_ok _ (by omega) W
  clear hz hl10
  generalize lsB v = re at *
  generalize Pk.strL (Pk.numL v) = bo at *
  generalize Pk.numL v = nl at *
  rw [hn]
  go_enter Tryz.func140, Tryz.ntmps140
  go_wp2_with (first
    | (go_at_call 75; refine (h75.out _).mono ?_; rintro e w3 ⟨rfl, b3⟩)
    | (go_at_call 76; refine (h76.out _ h1).mono ?_; rintro e w2 ⟨rfl, e2⟩; rw [e2]; clear e2)
    | (go_at_call 181; refine h181.out.mono ?_; rintro e w1 ⟨rfl, h1, u1⟩))
  go_ret
  have z1 := u1.size
  exact ⟨rfl, (hb0.trans (u1.below (by omega))).trans (b3.mono (by omega))⟩
theorem lease_back (v : Nat) (hv : v < 18446744073709551616) : Pk.uE (lsB v) = 0 ∧ Pk.uB (lsB v) = Pk.strL (Pk.numL v) ∧ ((lsB v).size : Int) - ((Pk.uR (lsB v)).size : Int) = ((lsB v).size : Int) := by
  obtain ⟨h1, h2, h3⟩ := unframe_back (lsB v) (Pk.strL (Pk.numL v)) (by have := numL_small v hv; omega) [] (by simp [lsB, lsL, Pk.strL])
  refine ⟨h1, h2, ?_⟩
  have e2 : (Pk.uR (lsB v)).size = (Pk.uR (lsB v)).data.toList.length := rfl
  rw [e2, h3]
  simp
theorem lsB_small (v : Nat) (hv : v < 18446744073709551616) : (lsB v).size ≤ 25 := by
  have h1 := Pk.numL_len10 v hv
  have h2 := Pk.numL_len10 (Pk.strL (Pk.numL v)).size (by have := numL_small v hv; omega)
  have e : (lsB v).size = (lsL v).length := by rw [lsB, Pk.strL_size]
  rw [e, lsL, Pk.frameL, Pk.textL]
  have h3 : (Pk.strL (Pk.numL v)).data.toList.length = (Pk.numL v).length := by simp [Pk.strL]
  simp only [List.length_append, h3]
  have h4 : ∀ x, (Pk.four x).length = 4 := fun _ => rfl
  rw [h4]
  omega
set_option maxHeartbeats 1600000 in
set_option maxRecDepth 100000 in
theorem parse_lease (v : Nat) (hv : v < 18446744073709551616) (w : World) :
    Calls Tryz.prog 139 #[.string (lsB v)] w fun e w' => e = .returned (.tuple #[.agg #[.int .u64 (v : Int)], .int .i64 0]) ∧ Below w.heap.size w w' := by
  obtain ⟨n, hn⟩ : ∃ n, w.heap.size = n := ⟨_, rfl⟩
  obtain ⟨e1, e2, e3⟩ := lease_back v hv
  have hsz := lsB_small v hv
  have hnz := numL_small v hv
  obtain ⟨t1, t2, t3⟩ := Pk.behind (Pk.strL (Pk.numL v)) v hv [] (by simp [Pk.strL])
  have hrz : (Pk.nR (Pk.strL (Pk.numL v))).size = 0 := by show (Pk.nR (Pk.strL (Pk.numL v))).data.toList.length = 0; rw [t3]; rfl
  have hun : Hid (∀ W, Calls Tryz.prog 177 #[.string (lsB v)] W fun x w' => x = .returned (.tuple #[.string (Pk.strL (Pk.numL v)), .int .i64 ((lsB v).size : Int), .int .i64 0]) ∧ Below W.heap.size W w') := fun W => by
    refine (Pk.unframe_any (lsB v) (by omega) W).mono ?_
    rintro e w1 ⟨b, q, he, hb, hq⟩
    obtain ⟨q1, q2⟩ := hq e1
    rw [q1, q2, e1, e2, e3] at he
    exact ⟨he, hb⟩
  have hre : Hid (∀ W, Calls Tryz.prog 178 #[.string (Pk.strL (Pk.numL v))] W fun x w' => x = .returned (.pointer (some ⟨W.heap.size, 0, none⟩)) ∧ Pk.Rd w' W.heap.size (Pk.strL (Pk.numL v)) 0 ∧ Below W.heap.size W w') := fun W => Pk.read_any _ W
  have hnu : Hid (∀ W m, Pk.Rd W m (Pk.strL (Pk.numL v)) 0 → Calls Tryz.prog 179 #[.pointer (some ⟨m, 0, none⟩)] W fun x w' => x = .returned (.int .u64 (v : Int)) ∧ Pk.Rd w' m (Pk.nR (Pk.strL (Pk.numL v))) 0 ∧ Upd m W w') := fun W m hW => by
    refine (Pk.num_ok m _ (by omega) W hW).mono ?_
    rintro e w1 ⟨he, hr, hx⟩
    rw [t2] at he
    rw [t1, Pk.restR, if_pos rfl] at hr
    exact ⟨he, hr, hx⟩
  have hdo : Hid (∀ W m, Pk.Rd W m (Pk.nR (Pk.strL (Pk.numL v))) 0 → Calls Tryz.prog 180 #[.pointer (some ⟨m, 0, none⟩)] W fun x w' => x = .returned (.int .i64 0) ∧ w' = W) := fun W m hW => by
    have := Pk.done_some m _ 0 W hW
    rw [Pk.doneV, if_pos rfl, if_pos hrz] at this
    exact this
  clear e1 e2 e3 hnz t1 t2 t3 hrz
  generalize Pk.nR (Pk.strL (Pk.numL v)) = R1 at *
  generalize Pk.strL (Pk.numL v) = Bd at *
  generalize lsB v = s at *
  obtain ⟨L, hL⟩ : ∃ L, s.size = L := ⟨_, rfl⟩
  rw [hL] at hun
  have hb0 : Below n w (w.alloc (.cells #[.int .u64 0] 70)) := (Below.refl _ _).alloc (by omega) _
  rw [hn]
  have hc : Hid (Holds (w.alloc (.cells #[.int .u64 0] 70)) n [.int .u64 0] 70) := hn ▸ holds_new w [.int .u64 0] 70
  have hnz : (w.alloc (.cells #[.int .u64 0] 70)).heap.size = n + 1 := by simp [hn]
  clear hsz
  go_enter Tryz.func139, Tryz.ntmps139
  go_wp2_with (first
    | (go_at_call 177; refine (hun.out _).mono ?_; rintro e w1 ⟨rfl, d1⟩; have c1 := hc.out.below d1 (by simp [hn]); obtain ⟨m, hm⟩ : ∃ m, w1.heap.size = m := ⟨_, rfl⟩; have hnm : n < m := (by have := d1.size; omega))
    | (go_at_call 178; refine (hre.out w1).mono ?_; rw [hm]; rintro e w2 ⟨rfl, r2, d2⟩; have c2 := c1.below d2 (by omega))
    | (go_at_call 179; refine (hnu.out w2 m r2).mono ?_; rintro e w3 ⟨rfl, r3, u3⟩; have c3 := c2.upd u3 (by omega); obtain ⟨q, hq⟩ : ∃ q, w3.heap.size = q := ⟨_, rfl⟩; have a3 := (c3.alloc (.cells #[.int .u64 (v : Int)] 70)).at 0 _ rfl; have f3 := (c3.alloc (.cells #[.int .u64 (v : Int)] 70)).frozen 0)
    | (go_at_call 180; refine (hdo.out _ m (r3.alloc _)).mono ?_; rintro e w6 ⟨rfl, rfl⟩))
  have C6 := (c3.alloc (.cells #[.int .u64 (v : Int)] 70)).set 0 (.int .u64 (v : Int))
  have v0 := C6.at 0 _ rfl
  have z2 := d2.size
  have z3 := u3.size
  have B4 : Below n w (w3.alloc (.cells #[.int .u64 (v : Int)] 70)) := (((hb0.trans (d1.mono (by omega))).trans (d2.mono (by omega))).trans (u3.below (by omega) (by omega))).alloc (by omega) _
  have B6 := below_set B4 n 0 (.int .u64 (v : Int)) (Nat.le_refl _)
  exact bodyPost_ret (v := .tuple #[.agg #[.int .u64 (v : Int)], .int .i64 0]) (by simp [results, Tryz.results139, go_sem, v0]) rfl ⟨rfl, B6⟩
end Go.Proofs.YtfmmholkeadejaaGreatDoor

/- A counter's lease on its disk; names that may be. -/
namespace Go.Proofs.YtfmmholkeadejaaGreatDoor
open Go.RowKit

/-- What leaseIn finds: the lease's number, and the error. -/
def LsIs (S : Dk) (s : ByteArray) (v : Nat) (E : Int) : Prop := (foundE S s = 0 ∧ readV S s = lsB v ∧ E = 0) ∨ (foundE S s = 21 ∧ v = 0 ∧ E = 0) ∨ (foundE S s = E ∧ E ≠ 0 ∧ E ≠ 21 ∧ v = 0)
set_option maxHeartbeats 1600000 in
set_option maxRecDepth 100000 in
theorem leaseIn_any (N : Lo) (d : Nat) (S : Dk) (s : ByteArray) (hs : s.size < 9223372036854775808) (v : Nat) (hv : v < 18446744073709551616) (E : Int) (hL : LsIs S s v E) (w : World) (h : DiskAt w N d S) :
    Calls Tryz.prog 93 #[.pointer (some ⟨d, 0, none⟩), .string s] w fun e w' => e = .returned (.tuple #[.agg #[.int .u64 (v : Int)], .int .i64 E]) ∧ Below w.heap.size w w' := by
  obtain ⟨n, hn⟩ : ∃ n, w.heap.size = n := ⟨_, rfl⟩
  have h109 : Hid (∀ W, Below w.heap.size w W → Calls Tryz.prog 109 #[.pointer (some ⟨d, 0, none⟩), .string s] W fun e w' => e = .returned (.tuple #[.string (readV S s), .int .i64 (foundE S s)]) ∧ Below W.heap.size W w') := fun W hW => read_some N d S s hs W (h.below hW)
  have hb0 : Below w.heap.size w (w.alloc (.cells #[.int .u64 0] 70)) := (Below.refl _ _).alloc (by omega) _
  have hc : Hid (Holds (w.alloc (.cells #[.int .u64 0] 70)) n [.int .u64 0] 70) := hn ▸ holds_new w [.int .u64 0] 70
  have hnz : (w.alloc (.cells #[.int .u64 0] 70)).heap.size = n + 1 := by simp [hn]
  clear h
  rcases hL with ⟨f0, f1, rfl⟩ | ⟨f0, rfl, rfl⟩ | ⟨f0, f1, f2, rfl⟩
  · rw [f0, f1] at h109
    have h139 : Hid (∀ W, Calls Tryz.prog 139 #[.string (lsB v)] W fun e w' => e = .returned (.tuple #[.agg #[.int .u64 (v : Int)], .int .i64 0]) ∧ Below W.heap.size W w') := fun W => parse_lease v hv W
    generalize lsB v = t at *
    clear f0 f1
    have hb0 : Hid (Below w.heap.size w (w.alloc (.cells #[.int .u64 0] 70))) := hb0
    go_enter Tryz.func93, Tryz.ntmps93
    go_wp2_with (first
      | (go_at_call 139; refine (h139.out _).mono ?_; rintro e w2 ⟨rfl, d2⟩; have c2 := c1.below d2 (by have := d1.size; omega); have a2 := c2.at 0 _ rfl; have f2 := c2.frozen 0)
      | (go_at_call 109; refine (h109.out _ hb0.out).mono ?_; rintro e w1 ⟨rfl, d1⟩; have c1 := hc.out.below d1 (by omega)))
    have C6 := c2.set 0 (.int .u64 (v : Int))
    have v0 := C6.at 0 _ rfl
    have z1 := d1.size
    have B6 := below_set (((hb0.out).trans (d1.mono (by omega))).trans (d2.mono (by omega))) n 0 (.int .u64 (v : Int)) (by omega)
    exact bodyPost_ret (v := .tuple #[.agg #[.int .u64 (v : Int)], .int .i64 0]) (by simp [results, Tryz.results93, go_sem, v0]) rfl ⟨rfl, B6⟩
  · rw [f0] at h109
    generalize readV S s = t at *
    clear f0
    have hb0 : Hid (Below w.heap.size w (w.alloc (.cells #[.int .u64 0] 70))) := hb0
    go_enter Tryz.func93, Tryz.ntmps93
    go_wp2_with (go_at_call 109; refine (h109.out _ hb0.out).mono ?_; rintro e w1 ⟨rfl, d1⟩; have c1 := hc.out.below d1 (by omega); have a2 := c1.at 0 _ rfl; have f2 := c1.frozen 0)
    have z1 := d1.size
    have v0 := (c1.set 0 (.int .u64 0)).at 0 _ rfl
    have B6 := below_set ((hb0.out).trans (d1.mono (by omega))) n 0 (.int .u64 0) (by omega)
    exact bodyPost_ret (v := .tuple #[.agg #[.int .u64 ((0 : Nat) : Int)], .int .i64 0]) (by simp [results, Tryz.results93, go_sem, v0]) rfl ⟨rfl, B6⟩
  · have e0 : (E == 0) = false := beq_eq_false_iff_ne.2 f1
    have e21 : (E == 21) = false := beq_eq_false_iff_ne.2 f2
    rw [f0] at h109
    generalize readV S s = t at *
    clear f0
    have hb0 : Hid (Below w.heap.size w (w.alloc (.cells #[.int .u64 0] 70))) := hb0
    go_enter Tryz.func93, Tryz.ntmps93
    go_wp2_with (go_at_call 109; refine (h109.out _ hb0.out).mono ?_; rintro e w1 ⟨rfl, d1⟩; have c1 := hc.out.below d1 (by omega); have a2 := c1.at 0 _ rfl; have f2 := c1.frozen 0)
    have z1 := d1.size
    have v0 := (c1.set 0 (.int .u64 0)).at 0 _ rfl
    have B6 := below_set ((hb0.out).trans (d1.mono (by omega))) n 0 (.int .u64 0) (by omega)
    exact bodyPost_ret (v := .tuple #[.agg #[.int .u64 ((0 : Nat) : Int)], .int .i64 E]) (by simp [results, Tryz.results93, go_sem, v0]) rfl ⟨rfl, B6⟩
theorem snamed_ok (N : Lo) (d : Nat) (nm : ByteArray) (hnm : capOk nm = true) (w : World) (hN : N ≤ w.heap.size) (hT : Tab N w) :
    Calls Tryz.prog 87 #[.pointer (some ⟨d, 0, none⟩), .string nm] w fun e w' => e = .returned (.bool true) ∧ Below w.heap.size w w' := by
  have h36 : Hid (Calls Tryz.prog 36 #[.string nm, .int .i64 1] w fun e w' => e = .returned (.string (fileB nm 1)) ∧ Below w.heap.size w w') := file_ok N nm hnm 1 (by decide) (by decide) w hN hT
  have hne : (fileB nm 1).toList.isEmpty = false := emp_false (s := fileB nm 1) (by
    show (fileB nm 1).data.toList.length ≠ 0
    rw [fileB_list, List.length_append]
    simp [six])
  generalize fileB nm 1 = f at *
  go_enter Tryz.func87, Tryz.ntmps87
  go_wp2_with (go_at_call 36; refine h36.out.mono ?_; rintro e w1 ⟨rfl, b1⟩)
  go_ret
  exact ⟨rfl, b1⟩
theorem snamed_nil (nm : ByteArray) (w : World) : Calls Tryz.prog 87 #[.pointer none, .string nm] w fun e w' => e = .returned (.bool false) ∧ w' = w := by
  go_enter Tryz.func87, Tryz.ntmps87
  go_wp2
  go_ret
  exact ⟨rfl, rfl⟩
/-- A counter's file. -/
def cntB (nm : ByteArray) : ByteArray := nm ++ (⟨#[46, 99, 111, 117, 110, 116]⟩ : ByteArray)
def ctV (d : Nat) (nm : ByteArray) (last given : Nat) (br : Bool) : List Value := [.int .u64 (last : Int), .pointer (some ⟨d, 0, none⟩), .string (cntB nm), .int .u64 (given : Int), .bool br]
set_option maxHeartbeats 1600000 in
set_option maxRecDepth 100000 in
theorem newc_ok (N : Lo) (d : Nat) (S : Dk) (nm : ByteArray) (hnm : capOk nm = true) (hsz : nm.size ≤ 32) (v : Nat) (hv : v < 18446744073709551616) (hL : LsIs S (cntB nm) v 0) (w : World) (h : DiskAt w N d S) (hN : N ≤ w.heap.size) (hT : Tab N w) :
    Calls Tryz.prog 41 #[.pointer (some ⟨d, 0, none⟩), .string nm] w fun e w' => ∃ c, e = .returned (.tuple #[.pointer (some ⟨c, 0, none⟩), .int .i64 0]) ∧ Holds w' c (ctV d nm v v false) 72 ∧ w.heap.size ≤ c ∧ Below w.heap.size w w' := by
  have h87 : Hid (Calls Tryz.prog 87 #[.pointer (some ⟨d, 0, none⟩), .string nm] w fun e w' => e = .returned (.bool true) ∧ Below w.heap.size w w') := snamed_ok N d nm hnm w hN hT
  have hcs : (cntB nm).size = nm.size + 6 := by unfold cntB; simp [ByteArray.size_append]; rfl
  have h93 : Hid (∀ W, Below w.heap.size w W → Calls Tryz.prog 93 #[.pointer (some ⟨d, 0, none⟩), .string (nm ++ ⟨#[46, 99, 111, 117, 110, 116]⟩)] W fun e w' => e = .returned (.tuple #[.agg #[.int .u64 (v : Int)], .int .i64 0]) ∧ Below W.heap.size W w') := fun W hW => leaseIn_any N d S (cntB nm) (by omega) v hv 0 hL W (h.below hW)
  have hq : ¬ 9223372036854775807 < nm.size + 6 := by omega
  clear h hL hcs
  go_enter Tryz.func41, Tryz.ntmps41
  go_wp2_with (first
    | (go_at_call 93; refine (h93.out _ B2.out).mono ?_; rintro e w2 ⟨rfl, b2⟩; have H2 := H1.below b2 (by simp; omega); have a0 := H2.at 0 _ rfl; have f0 := H2.frozen 0; have H3 := H2.set 0 (.int .u64 (v : Int)); have a3 := H3.at 0 _ rfl; have a33 := H3.at 3 _ rfl; have f3 := H3.frozen 3)
    | (go_at_call 87; refine h87.out.mono ?_; rintro e w1 ⟨rfl, b1⟩; obtain ⟨m, hm⟩ : ∃ m, w1.heap.size = m := ⟨_, rfl⟩; have H1 : Holds (w1.alloc (.cells #[.int .u64 0, .pointer (some ⟨d, 0, none⟩), .string (nm ++ ⟨#[46, 99, 111, 117, 110, 116]⟩), .int .u64 0, .bool false] 72)) m [.int .u64 0, .pointer (some ⟨d, 0, none⟩), .string (nm ++ ⟨#[46, 99, 111, 117, 110, 116]⟩), .int .u64 0, .bool false] 72 := (hm ▸ holds_new w1 [.int .u64 0, .pointer (some ⟨d, 0, none⟩), .string (nm ++ ⟨#[46, 99, 111, 117, 110, 116]⟩), .int .u64 0, .bool false] 72); have B2 : Hid (Below w.heap.size w (w1.alloc (.cells #[.int .u64 0, .pointer (some ⟨d, 0, none⟩), .string (nm ++ ⟨#[46, 99, 111, 117, 110, 116]⟩), .int .u64 0, .bool false] 72))) := b1.alloc b1.size _; have c12 := H1.at 2 _ rfl))
  go_ret2
  have z1 := b1.size
  have H4 := H3.set 3 (.int .u64 (v : Int))
  exact ⟨m, rfl, H4, by omega, below_set (below_set (B2.out.trans (b2.mono (by simp; omega))) m 0 _ (by omega)) m 3 _ (by omega)⟩
/-- Next, while the lease has numbers. -/
theorem next_broken (d c : Nat) (nm : ByteArray) (last given : Nat) (w : World) (h : Holds w c (ctV d nm last given true) 72) :
    Calls Tryz.prog 42 #[.pointer (some ⟨c, 0, none⟩)] w fun e w' => e = .returned (.tuple #[.int .u64 0, .int .i64 24]) ∧ w' = w := by
  have c1 := h.at 1 _ rfl
  have c4 := h.at 4 _ rfl
  go_enter Tryz.func42, Tryz.ntmps42
  go_wp2
  go_ret2
  exact ⟨rfl, rfl⟩
theorem next_nil (w : World) : Calls Tryz.prog 42 #[.pointer none] w fun e w' => e = .returned (.tuple #[.int .u64 0, .int .i64 1]) ∧ w' = w := by
  go_enter Tryz.func42, Tryz.ntmps42
  go_wp2
  go_ret2
  exact ⟨rfl, rfl⟩
theorem next_zero (c : Nat) (w : World) (h : Holds w c [.int .u64 0, .pointer none, .string ⟨#[]⟩, .int .u64 0, .bool false] 72) : Calls Tryz.prog 42 #[.pointer (some ⟨c, 0, none⟩)] w fun e w' => e = .returned (.tuple #[.int .u64 0, .int .i64 1]) ∧ w' = w := by
  have c1 := h.at 1 _ rfl
  go_enter Tryz.func42, Tryz.ntmps42
  go_wp2
  go_ret2
  exact ⟨rfl, rfl⟩
theorem leased_some (d c : Nat) (nm : ByteArray) (last given : Nat) (br : Bool) (w : World) (h : Holds w c (ctV d nm last given br) 72) :
    Calls Tryz.prog 44 #[.pointer (some ⟨c, 0, none⟩)] w fun e w' => e = .returned (.int .u64 (last : Int)) ∧ w' = w := by
  have c0 := h.at 0 _ rfl
  go_enter Tryz.func44, Tryz.ntmps44
  go_wp2
  go_ret
  exact ⟨rfl, rfl⟩
theorem leased_nil (w : World) : Calls Tryz.prog 44 #[.pointer none] w fun e w' => e = .returned (.int .u64 0) ∧ w' = w := by
  go_enter Tryz.func44, Tryz.ntmps44
  go_wp2
  go_ret
  exact ⟨rfl, rfl⟩
theorem next_have (d c : Nat) (nm : ByteArray) (last given : Nat) (hg : given < last) (hl : last < 18446744073709551616) (w : World) (h : Holds w c (ctV d nm last given false) 72) :
    Calls Tryz.prog 42 #[.pointer (some ⟨c, 0, none⟩)] w fun e w' => e = .returned (.tuple #[.int .u64 ((given + 1 : Nat) : Int), .int .i64 0]) ∧ w' = w.drew.setCell ⟨c, 3, none⟩ (.int .u64 ((given + 1 : Nat) : Int)) := by
  have c0 := h.at 0 _ rfl
  have c1 := h.at 1 _ rfl
  have c3 := h.at 3 _ rfl
  have c4 := h.at 4 _ rfl
  have hd : Holds w.drew c (ctV d nm last given false) 72 := h
  have d0 := hd.at 0 _ rfl
  have d3 := hd.at 3 _ rfl
  have f3 := hd.frozen 3
  have hne : ((given : Int) == (last : Int)) = false := beq_eq_false_iff_ne.2 (by omega)
  have hw : IntKind.u64.wrap ((given : Int) + 1) = ((given + 1 : Nat) : Int) := by simp [IntKind.wrap, IntKind.bits, IntKind.signed]; omega
  have H4 := hd.set 3 (.int .u64 ((given + 1 : Nat) : Int))
  have c33 := H4.at 3 _ rfl
  generalize ((given + 1 : Nat) : Int) = G at *
  go_enter Tryz.func42, Tryz.ntmps42
  go_wp2
  go_region
  all_goals
    go_wp2
    go_ret2
    exact ⟨rfl, rfl⟩
end Go.Proofs.YtfmmholkeadejaaGreatDoor
