/- PkCheck, PkCrc, PkOne, PkFrame, PkUnframe, PkSame, PkTurn, PkBack. -/
import Derived.Laws.BytesString
import Derived.Test.YtfmmholkeadejaaGreatDoorZP2
import Derived.Test.YtfmmholkeadejaaGreatDoorZP1
/- What Bytes, Check, checkOf answer. -/
namespace Go.Proofs.YtfmmholkeadejaaGreatDoor.Pk
open Go.RowKit

theorem und5 : Tryz.prog.underlying 5 = some (.int .u8) := by kernel_rfl
/-- The text of some bytes. -/
def strL (l : List UInt8) : ByteArray := ⟨l.toArray⟩
theorem strL_list (l : List UInt8) : (strL l).data.toList = l := rfl
theorem strL_size (l : List UInt8) : (strL l).size = l.length := rfl
theorem str_nums (l : List UInt8) : strOfNums (l.map fun c => (c.toNat : Int)) = strL l := by
  unfold strOfNums strL
  rw [List.map_map]
  congr 2
  have : ((fun n : Int => UInt8.ofNat n.toNat) ∘ fun c : UInt8 => (c.toNat : Int)) = id := by
    funext c
    simp
  rw [this, List.map_id]
set_option maxRecDepth 100000 in
theorem convert_own {w : World} {B : Nat} {v : Value} {bs : List UInt8} (h : w.ownsRow B 5 1 v bs.length (bs.map byteV)) : (convert 61 9 v).run Tryz.prog w = .ok (.string (strL bs)) w := by
  rcases h.2 with ⟨rfl, h0⟩ | ⟨g, cap, cur, rfl, hg, hcur, hcap, hcm, hcz, htk⟩
  · have : bs = [] := List.eq_nil_of_length_eq_zero h0
    subst this
    rfl
  · have := run_convert_bytes_arg (P := Tryz.prog) w 61 5 und61 und5 g 0 bs.length cap (bs.map fun c => (c.toNat : Int)) (by simp) (fun i hi => by
      have hl : i < bs.length := by simpa using hi
      rw [Nat.zero_add, cell_of_row w g i cur 5 (0, 0) hcur]
      have h3 : (cur.toList.take (bs.length * 1))[i]? = (bs.map byteV)[i]? := by rw [htk]
      rw [List.getElem?_take_of_lt (by omega), Array.getElem?_toList] at h3
      rw [h3]
      simp [hl]; rfl) 9 und9
    rw [str_nums] at this
    exact this

set_option maxRecDepth 100000 in
theorem bytes_nil (w : World) : Calls Tryz.prog 76 #[.pointer none] w fun e w' => e = .returned (.string ⟨#[]⟩) ∧ w' = w := by
  go_enter Tryz.func76, Tryz.ntmps76
  go_wp2
  go_ret
  exact ⟨rfl, rfl⟩
set_option maxRecDepth 100000 in
theorem bytes_some (B : Nat) (bs : List UInt8) (w : World) (hw : Wr w B bs) :
    Calls Tryz.prog 76 #[.pointer (some ⟨B, 0, none⟩)] w fun e w' => e = .returned (.string (strL bs)) ∧ w' = w := by
  obtain ⟨v, hB, hown⟩ := hw
  have cB : w.cell? ⟨B, 0, none⟩ = some v := hB.at 0 _ rfl
  have hcv := convert_own hown
  obtain ⟨a, k, c, rfl⟩ := own_slice hown
  go_enter Tryz.func76, Tryz.ntmps76
  go_wp2
  go_ret
  exact ⟨rfl, rfl⟩

/-- One bit of the check, one byte of it, all. -/
def crc1 (c : BitVec 32) : BitVec 32 := (c >>> 1) ^^^ ((-(c &&& 1#32)) &&& 3988292384#32)
def crcN : Nat → BitVec 32 → BitVec 32
  | 0, c => c
  | k + 1, c => crc1 (crcN k c)
def crc8 (c : BitVec 32) (b : UInt8) : BitVec 32 := crcN 8 (c ^^^ BitVec.ofNat 32 b.toNat)
def crc (l : List UInt8) : BitVec 32 := ~~~ (l.foldl crc8 4294967295#32)

theorem wrap_u32 (n : Int) : IntKind.u32.wrap n = n % 4294967296 := by simp [IntKind.wrap, IntKind.bits, IntKind.signed]
theorem ofInt_toNat (x : BitVec 32) : BitVec.ofInt 32 (x.toNat : Int) = x := by
  apply BitVec.eq_of_toNat_eq
  rw [BitVec.toNat_ofInt]
  have := x.isLt
  omega
theorem wrap_toNat (x : BitVec 32) : IntKind.u32.wrap (x.toNat : Int) = x.toNat := by
  rw [wrap_u32]
  have := x.isLt
  omega
theorem u_xor (x y : BitVec 32) : bits .xor .u32 (x.toNat : Int) (y.toNat : Int) = ((x ^^^ y).toNat : Int) := by
  show IntKind.u32.wrap ((BitVec.ofInt 32 (x.toNat : Int) ^^^ BitVec.ofInt 32 (y.toNat : Int)).toNat : Int) = _
  rw [ofInt_toNat, ofInt_toNat, wrap_toNat]
theorem u_and (x y : BitVec 32) : bits .and .u32 (x.toNat : Int) (y.toNat : Int) = ((x &&& y).toNat : Int) := by
  show IntKind.u32.wrap ((BitVec.ofInt 32 (x.toNat : Int) &&& BitVec.ofInt 32 (y.toNat : Int)).toNat : Int) = _
  rw [ofInt_toNat, ofInt_toNat, wrap_toNat]
theorem u_not (x : BitVec 32) : bits .xor .u32 IntKind.u32.max (x.toNat : Int) = ((~~~x).toNat : Int) := by
  show IntKind.u32.wrap ((BitVec.ofInt 32 IntKind.u32.max ^^^ BitVec.ofInt 32 (x.toNat : Int)).toNat : Int) = _
  rw [ofInt_toNat, wrap_toNat, show BitVec.ofInt 32 IntKind.u32.max = BitVec.allOnes 32 by decide, BitVec.allOnes_xor]
theorem u_neg (x : BitVec 32) : IntKind.u32.wrap (-(x.toNat : Int)) = ((-x).toNat : Int) := by
  rw [wrap_u32, BitVec.toNat_neg]
  have := x.isLt
  omega

theorem crc1_val (d : BitVec 32) : bits .xor .u32 ((d.toNat : Int) / 2) (bits .and .u32 (-(bits .and .u32 (d.toNat : Int) 1) % 4294967296) 3988292384) = ((crc1 d).toNat : Int) := by
  have h1 : bits .and .u32 (d.toNat : Int) 1 = ((d &&& 1#32).toNat : Int) := u_and d 1#32
  have h2 : -((d &&& 1#32).toNat : Int) % 4294967296 = ((-(d &&& 1#32)).toNat : Int) := by rw [← wrap_u32, u_neg]
  have h3 : bits .and .u32 ((-(d &&& 1#32)).toNat : Int) 3988292384 = ((-(d &&& 1#32) &&& 3988292384#32).toNat : Int) := u_and _ 3988292384#32
  have h4 : (d.toNat : Int) / (2 : Int) = ((d >>> 1).toNat : Int) := by rw [BitVec.toNat_ushiftRight, Nat.shiftRight_eq_div_pow]; omega
  rw [h1, h2, h3, h4, u_xor]
  rfl
set_option maxHeartbeats 400000 in
set_option maxRecDepth 100000 in
theorem check_any (s : ByteArray) (hs : s.size < 9223372036854775808) (w : World) :
    Calls Tryz.prog 163 #[.string s] w fun e w' => e = .returned (.int .u32 ((crc s.data.toList).toNat : Int)) ∧ w' = w := by
  obtain ⟨R, hR⟩ : ∃ R, crc s.data.toList = R := ⟨_, rfl⟩
  rw [hR]
  have hR' : Hid (crc s.data.toList = R) := hR
  clear hR
  have hR := hR'
  clear hR'
  go_enter Tryz.func163, Tryz.ntmps163
  go_wp2_with fail
  go_loop [3, 7] (fun c i => ∃ k : Nat, k ≤ s.size ∧ i = .int .i64 (k : Int) ∧ c = .int .u32 ((((s.data.toList.take k).foldl crc8 4294967295#32).toNat : Nat) : Int)) (fun _ i => s.size - (intOf i).toNat)
  case atStart => exact ⟨0, by omega, rfl, rfl⟩
  case round =>
    obtain ⟨k, hk, rfl, rfl⟩ := hrel
    by_cases hlt : k < s.size
    · have hg := get_list s k hlt
      obtain ⟨c, hc⟩ : ∃ c, (s.data.toList.take k).foldl crc8 4294967295#32 = c := ⟨_, rfl⟩
      have HC : Hid ((s.data.toList.take k).foldl crc8 4294967295#32 = c) := hc
      rw [hc]
      clear hc
      have HG : Hid (s.data.toList[k]? = some (s[k]'hlt)) := hg
      clear hg
      obtain ⟨b, hb⟩ : ∃ b, s[k]'hlt = b := ⟨_, rfl⟩
      have hb1 : b.toNat < 256 := b.toNat_lt
      have hb2 : ((BitVec.ofNat 32 b.toNat).toNat : Int) = (b.toNat : Int) := by rw [BitVec.toNat_ofNat]; omega
      go_wp2_with fail
      go_loop [3, 16] (fun c' i => ∃ j : Nat, j ≤ 8 ∧ i = .int .i64 (j : Int) ∧ c' = .int .u32 (((crcN j (c ^^^ BitVec.ofNat 32 b.toNat)).toNat : Nat) : Int)) (fun _ i => 8 - (intOf i).toNat)
      case atStart =>
        refine ⟨0, by omega, rfl, ?_⟩
        show _ = Value.int .u32 ((c ^^^ BitVec.ofNat 32 b.toNat).toNat : Int)
        rw [← u_xor, hb2]
      case round =>
        obtain ⟨j, hj, rfl, rfl⟩ := hrel
        by_cases hj8 : j < 8
        · generalize hd : crcN j (c ^^^ BitVec.ofNat 32 b.toNat) = d
          go_wp2
          refine ⟨⟨j + 1, by omega, rfl, ?_⟩, by simp; omega⟩
          rw [crc1_val, crcN, hd]
        · have hj8 : j = 8 := by omega
          subst hj8
          go_wp2
          refine ⟨⟨k + 1, by omega, rfl, ?_⟩, by simp; omega⟩
          rw [List.take_add_one, HG.out, hb, List.foldl_append, HC.out]
          rfl
    · have htk : s.data.toList.take k = s.data.toList := List.take_of_length_le (by have : s.data.toList.length = s.size := rfl; omega)
      rw [htk]
      obtain ⟨q, hq⟩ : ∃ q, s.data.toList.foldl crc8 4294967295#32 = q := ⟨_, rfl⟩
      rw [hq]
      have hRq : Hid (R = ~~~ q) := by
        show R = ~~~ q
        rw [← hR.out, crc, hq]
      clear hq htk
      go_wp2
      go_ret
      exact ⟨by rw [hRq.out, ← u_not]; rfl, rfl⟩

/-- A check in four bytes. -/
def four (c : BitVec 32) : List UInt8 := [UInt8.ofNat (c.toNat / 16777216), UInt8.ofNat (c.toNat / 65536), UInt8.ofNat (c.toNat / 256), UInt8.ofNat c.toNat]
set_option maxRecDepth 100000 in
theorem checkOf_any (s : ByteArray) (hs : s.size < 9223372036854775808) (w : World) :
    Calls Tryz.prog 124 #[.string s] w fun e w' => e = .returned (.string (strL (four (crc s.data.toList)))) ∧ Below w.heap.size w w' := by
  have hk : Hid (Calls Tryz.prog 163 #[.string s] w fun e w' => e = .returned (.int .u32 ((crc s.data.toList).toNat : Int)) ∧ w' = w) := check_any s hs w
  generalize crc s.data.toList = c at *
  have hc := c.isLt
  have e1 : byteV (UInt8.ofNat (c.toNat / 16777216)) = .int .u8 ((c.toNat : Int) / 16777216) := by
    rw [byteV_ofNat]
    congr 1
    omega
  have e2 : byteV (UInt8.ofNat (c.toNat / 65536)) = .int .u8 ((c.toNat : Int) / 65536 % 256) := by rw [byteV_ofNat]; simp
  have e3 : byteV (UInt8.ofNat (c.toNat / 256)) = .int .u8 ((c.toNat : Int) / 256 % 256) := by rw [byteV_ofNat]; simp
  have e4 : byteV (UInt8.ofNat c.toNat) = .int .u8 ((c.toNat : Int) % 256) := by rw [byteV_ofNat]
  have hN : (four c).map byteV = [.int .u8 ((c.toNat : Int) / 16777216), .int .u8 ((c.toNat : Int) / 65536 % 256), .int .u8 ((c.toNat : Int) / 256 % 256), .int .u8 ((c.toNat : Int) % 256)] := by
    rw [← e1, ← e2, ← e3, ← e4]; rfl
  have hcv : (convert 61 9 (.slice (some ⟨w.heap.size, 0, none⟩) 4 4)).run Tryz.prog (w.alloc (.cells #[.int .u8 ((c.toNat : Int) / 16777216), .int .u8 ((c.toNat : Int) / 65536 % 256), .int .u8 ((c.toNat : Int) / 256 % 256), .int .u8 ((c.toNat : Int) % 256)] 5)) = .ok (.string (strL (four c))) (w.alloc (.cells #[.int .u8 ((c.toNat : Int) / 16777216), .int .u8 ((c.toNat : Int) / 65536 % 256), .int .u8 ((c.toNat : Int) / 256 % 256), .int .u8 ((c.toNat : Int) % 256)] 5)) := by
    refine convert_own (B := 0) (bs := four c) ⟨by simp, .inr ⟨w.heap.size, 4, _, rfl, by omega, heap_alloc_new w _, Nat.le_refl _, by unfold maxLen; omega, rfl, ?_⟩⟩
    rw [hN]; rfl
  clear hN e1 e2 e3 e4
  go_enter Tryz.func124, Tryz.ntmps124
  go_wp2_with (go_at_call 163; refine hk.out.mono ?_; rintro e w2 ⟨rfl, rfl⟩)
  go_ret
  exact ⟨rfl, (Below.refl _ _).alloc (Nat.le_refl _) _⟩
end Go.Proofs.YtfmmholkeadejaaGreatDoor.Pk

/- Two texts that differ in one byte have different checks. -/
namespace Go.Proofs.YtfmmholkeadejaaGreatDoor.Pk

theorem mask_bit (b : Bool) : ((-(BitVec.ofBool b).zeroExtend 32) &&& 3988292384#32) = if b then 3988292384#32 else 0#32 := by
  cases b <;> decide
theorem low_bit (c : BitVec 32) : (c &&& 1#32) = (BitVec.ofBool (c.getLsbD 0)).zeroExtend 32 := by
  apply BitVec.eq_of_getLsbD_eq
  intro i hi
  rw [BitVec.getLsbD_and]
  by_cases h0 : i = 0
  · subst h0
    simp
  · simp [BitVec.getLsbD_ofBool, h0]
theorem crc1_eq (c : BitVec 32) : crc1 c = (c >>> 1) ^^^ (if c.getLsbD 0 then 3988292384#32 else 0#32) := by
  rw [crc1, low_bit, mask_bit]
theorem crc1_top (c : BitVec 32) : (crc1 c).getLsbD 31 = c.getLsbD 0 := by
  rw [crc1_eq, BitVec.getLsbD_xor, BitVec.getLsbD_ushiftRight]
  have h : c.getLsbD (1 + 31) = false := BitVec.getLsbD_of_ge c _ (by decide)
  rw [h]
  cases c.getLsbD 0 <;> decide
theorem crc1_inj {c d : BitVec 32} (h : crc1 c = crc1 d) : c = d := by
  have h0 : c.getLsbD 0 = d.getLsbD 0 := by rw [← crc1_top, ← crc1_top, h]
  have h1 : c >>> 1 = d >>> 1 := by
    rw [crc1_eq, crc1_eq, h0] at h
    generalize (if d.getLsbD 0 = true then 3988292384#32 else 0#32) = m at h
    have := congrArg (· ^^^ m) h
    simpa [BitVec.xor_assoc] using this
  apply BitVec.eq_of_getLsbD_eq
  intro i hi
  cases i with
  | zero => exact h0
  | succ i =>
    have := congrArg (fun x => BitVec.getLsbD x i) h1
    simp only [BitVec.getLsbD_ushiftRight] at this
    rw [Nat.add_comm]
    exact this
theorem crcN_inj : ∀ (k : Nat) {c d : BitVec 32}, crcN k c = crcN k d → c = d
  | 0, _, _, h => h
  | k + 1, _, _, h => crcN_inj k (crc1_inj h)
theorem crc8_left {c d : BitVec 32} (b : UInt8) (h : crc8 c b = crc8 d b) : c = d := by
  have := crcN_inj 8 h
  have := congrArg (· ^^^ BitVec.ofNat 32 b.toNat) this
  simpa [BitVec.xor_assoc] using this
theorem crc8_right {c : BitVec 32} {a b : UInt8} (h : crc8 c a = crc8 c b) : a = b := by
  have h := crcN_inj 8 h
  have h2 := congrArg (c ^^^ ·) h
  simp only [← BitVec.xor_assoc, BitVec.xor_self, BitVec.zero_xor] at h2
  have h3 := congrArg BitVec.toNat h2
  rw [BitVec.toNat_ofNat, BitVec.toNat_ofNat] at h3
  have ha := a.toNat_lt
  have hb := b.toNat_lt
  exact UInt8.toNat_inj.1 (by omega)
theorem fold_left (l : List UInt8) : ∀ {c d : BitVec 32}, l.foldl crc8 c = l.foldl crc8 d → c = d := by
  induction l with
  | nil => intro c d h; exact h
  | cons x r ih => intro c d h; exact crc8_left x (ih h)
/-- One byte turned: another check. -/
theorem crc_turn (p : List UInt8) (a b : UInt8) (q : List UInt8) (h : a ≠ b) : crc (p ++ a :: q) ≠ crc (p ++ b :: q) := fun e => by
  unfold crc at e
  have e := congrArg (~~~ ·) e
  simp only [BitVec.not_not] at e
  rw [List.foldl_append, List.foldl_append, List.foldl_cons, List.foldl_cons] at e
  exact h (crc8_right (fold_left q e))
theorem four_inj {c d : BitVec 32} (h : four c = four d) : c = d := by
  unfold four at h
  simp only [List.cons.injEq, and_true] at h
  obtain ⟨h1, h2, h3, h4⟩ := h
  have f : ∀ m n : Nat, UInt8.ofNat m = UInt8.ofNat n → m % 256 = n % 256 := fun m n e => by
    have := congrArg UInt8.toNat e
    rwa [UInt8.toNat_ofNat', UInt8.toNat_ofNat'] at this
  have g1 := f _ _ h1
  have g2 := f _ _ h2
  have g3 := f _ _ h3
  have g4 := f _ _ h4
  have hc := c.isLt
  have hd := d.isLt
  apply BitVec.eq_of_toNat_eq
  omega
theorem four_length (c : BitVec 32) : (four c).length = 4 := rfl
end Go.Proofs.YtfmmholkeadejaaGreatDoor.Pk

/- The exported writings at one thing that lies in a new block; several numbers likewise. -/
namespace Go.Proofs.YtfmmholkeadejaaGreatDoor.Pk
open Go.RowKit

theorem new_cells (w : World) (N : Nat) (hN : w.heap.size = N) (cs : List Value) (t : TypeId) (i : Nat) : (w.alloc (.cells cs.toArray t)).cell? ⟨N, 0 + i, none⟩ = cs[i]? := by
  subst hN
  rw [Nat.zero_add]
  exact (holds_new w cs t).cell i
theorem wupd_new {B : Nat} {w w' : World} (o : Obj) (hB : B < w.heap.size) (h : WUpd B (w.alloc o) w') : WUpd B w w' :=
  (WUpd.ofBelow (by omega) ((Below.refl _ _).alloc (Nat.le_refl _) o)).trans h

theorem wnums_new (B : Nat) (bs : List UInt8) (xs : List Nat) (hx : ∀ x ∈ xs, x < 18446744073709551616) (w : World) (N : Nat) (hN : w.heap.size = N) (hw : Wr w B bs) (hl : bs.length + (xs.flatMap numL).length + 10 ≤ 140737488355328) (hlen : xs.length < 9223372036854775807) :
    Calls Tryz.prog 181 #[.pointer (some ⟨B, 0, none⟩), .slice (some ⟨N, 0, none⟩) xs.length xs.length] (w.alloc (.cells (xs.map (fun x : Nat => Value.int .u64 (x : Int))).toArray 68)) fun e w' => e = .returned (.pointer (some ⟨B, 0, none⟩)) ∧ Wr w' B (bs ++ xs.flatMap numL) ∧ WUpd B w w' := by
  have hB := hw.lt
  refine (wnums_any B bs xs hx N 0 xs.length _ (hw.alloc _) ?_ (fun i y hy => ?_) hl hlen).mono fun e w' ⟨h1, h2, h3⟩ => ⟨h1, h2, wupd_new _ hB h3⟩
  · subst hN
    exact keep_new w _ 68 (by decide) B hB
  · rw [new_cells w N hN, List.getElem?_map, hy]; rfl
theorem wnums_one (B : Nat) (bs : List UInt8) (x : Nat) (hx : x < 18446744073709551616) (w : World) (N : Nat) (hN : w.heap.size = N) (hw : Wr w B bs) (hl : bs.length + (numL x).length + 10 ≤ 140737488355328) :
    Calls Tryz.prog 181 #[.pointer (some ⟨B, 0, none⟩), .slice (some ⟨N, 0, none⟩) 1 1] (w.alloc (.cells #[(.int .u64 (x : Int))] 68)) fun e w' => e = .returned (.pointer (some ⟨B, 0, none⟩)) ∧ Wr w' B (bs ++ numL x) ∧ WUpd B w w' := by
  have h := wnums_new B bs [x] (fun y hy => by obtain rfl := List.mem_singleton.1 hy; exact hx) w N hN hw (by simpa using hl) (by simp)
  rw [List.flatMap_singleton] at h
  exact h
theorem wflags_new (B : Nat) (bs : List UInt8) (xs : List Bool) (hx : ∀ x ∈ xs, True) (w : World) (N : Nat) (hN : w.heap.size = N) (hw : Wr w B bs) (hl : bs.length + (xs.flatMap flagL).length + 10 ≤ 140737488355328) (hlen : xs.length < 9223372036854775807) :
    Calls Tryz.prog 74 #[.pointer (some ⟨B, 0, none⟩), .slice (some ⟨N, 0, none⟩) xs.length xs.length] (w.alloc (.cells (xs.map (fun x => Value.bool x)).toArray 4)) fun e w' => e = .returned (.pointer (some ⟨B, 0, none⟩)) ∧ Wr w' B (bs ++ xs.flatMap flagL) ∧ WUpd B w w' := by
  have hB := hw.lt
  refine (wflags_any B bs xs hx N 0 xs.length _ (hw.alloc _) ?_ (fun i y hy => ?_) hl hlen).mono fun e w' ⟨h1, h2, h3⟩ => ⟨h1, h2, wupd_new _ hB h3⟩
  · subst hN
    exact keep_new w _ 4 (by decide) B hB
  · rw [new_cells w N hN, List.getElem?_map, hy]; rfl
theorem wflags_one (B : Nat) (bs : List UInt8) (x : Bool) (hx : True) (w : World) (N : Nat) (hN : w.heap.size = N) (hw : Wr w B bs) (hl : bs.length + (flagL x).length + 10 ≤ 140737488355328) :
    Calls Tryz.prog 74 #[.pointer (some ⟨B, 0, none⟩), .slice (some ⟨N, 0, none⟩) 1 1] (w.alloc (.cells #[(.bool x)] 4)) fun e w' => e = .returned (.pointer (some ⟨B, 0, none⟩)) ∧ Wr w' B (bs ++ flagL x) ∧ WUpd B w w' := by
  have h := wflags_new B bs [x] (fun y hy => by obtain rfl := List.mem_singleton.1 hy; exact hx) w N hN hw (by simpa using hl) (by simp)
  rw [List.flatMap_singleton] at h
  exact h
theorem wtexts_new (B : Nat) (bs : List UInt8) (xs : List ByteArray) (hx : ∀ x ∈ xs, True) (w : World) (N : Nat) (hN : w.heap.size = N) (hw : Wr w B bs) (hl : bs.length + (xs.flatMap textL).length + 10 ≤ 140737488355328) (hlen : xs.length < 9223372036854775807) :
    Calls Tryz.prog 73 #[.pointer (some ⟨B, 0, none⟩), .slice (some ⟨N, 0, none⟩) xs.length xs.length] (w.alloc (.cells (xs.map (fun x => Value.string x)).toArray 9)) fun e w' => e = .returned (.pointer (some ⟨B, 0, none⟩)) ∧ Wr w' B (bs ++ xs.flatMap textL) ∧ WUpd B w w' := by
  have hB := hw.lt
  refine (wtexts_any B bs xs hx N 0 xs.length _ (hw.alloc _) ?_ (fun i y hy => ?_) hl hlen).mono fun e w' ⟨h1, h2, h3⟩ => ⟨h1, h2, wupd_new _ hB h3⟩
  · subst hN
    exact keep_new w _ 9 (by decide) B hB
  · rw [new_cells w N hN, List.getElem?_map, hy]; rfl
theorem wtexts_one (B : Nat) (bs : List UInt8) (x : ByteArray) (hx : True) (w : World) (N : Nat) (hN : w.heap.size = N) (hw : Wr w B bs) (hl : bs.length + (textL x).length + 10 ≤ 140737488355328) :
    Calls Tryz.prog 73 #[.pointer (some ⟨B, 0, none⟩), .slice (some ⟨N, 0, none⟩) 1 1] (w.alloc (.cells #[(.string x)] 9)) fun e w' => e = .returned (.pointer (some ⟨B, 0, none⟩)) ∧ Wr w' B (bs ++ textL x) ∧ WUpd B w w' := by
  have h := wtexts_new B bs [x] (fun y hy => by obtain rfl := List.mem_singleton.1 hy; exact hx) w N hN hw (by simpa using hl) (by simp)
  rw [List.flatMap_singleton] at h
  exact h
theorem wraws_new (B : Nat) (bs : List UInt8) (xs : List ByteArray) (hx : ∀ x ∈ xs, True) (w : World) (N : Nat) (hN : w.heap.size = N) (hw : Wr w B bs) (hl : bs.length + (xs.flatMap rawL).length + 10 ≤ 140737488355328) (hlen : xs.length < 9223372036854775807) :
    Calls Tryz.prog 123 #[.pointer (some ⟨B, 0, none⟩), .slice (some ⟨N, 0, none⟩) xs.length xs.length] (w.alloc (.cells (xs.map (fun x => Value.string x)).toArray 9)) fun e w' => e = .returned (.pointer (some ⟨B, 0, none⟩)) ∧ Wr w' B (bs ++ xs.flatMap rawL) ∧ WUpd B w w' := by
  have hB := hw.lt
  refine (wraws_any B bs xs hx N 0 xs.length _ (hw.alloc _) ?_ (fun i y hy => ?_) hl hlen).mono fun e w' ⟨h1, h2, h3⟩ => ⟨h1, h2, wupd_new _ hB h3⟩
  · subst hN
    exact keep_new w _ 9 (by decide) B hB
  · rw [new_cells w N hN, List.getElem?_map, hy]; rfl
theorem wraws_one (B : Nat) (bs : List UInt8) (x : ByteArray) (hx : True) (w : World) (N : Nat) (hN : w.heap.size = N) (hw : Wr w B bs) (hl : bs.length + (rawL x).length + 10 ≤ 140737488355328) :
    Calls Tryz.prog 123 #[.pointer (some ⟨B, 0, none⟩), .slice (some ⟨N, 0, none⟩) 1 1] (w.alloc (.cells #[(.string x)] 9)) fun e w' => e = .returned (.pointer (some ⟨B, 0, none⟩)) ∧ Wr w' B (bs ++ rawL x) ∧ WUpd B w w' := by
  have h := wraws_new B bs [x] (fun y hy => by obtain rfl := List.mem_singleton.1 hy; exact hx) w N hN hw (by simpa using hl) (by simp)
  rw [List.flatMap_singleton] at h
  exact h
end Go.Proofs.YtfmmholkeadejaaGreatDoor.Pk

/- What Frame and Unframe answer. -/
namespace Go.Proofs.YtfmmholkeadejaaGreatDoor.Pk
open Go.RowKit

/-- A zero writer at a block that is new. -/
theorem wr_new (w : World) : Wr (w.alloc (.cells #[.slice none 0 0] 131)) w.heap.size [] := ⟨_, holds_new w [.slice none 0 0] 131, World.ownsRow_nil _ _ _ _⟩

/-- A frame. -/
def frameL (s : ByteArray) : List UInt8 := textL s ++ four (crc s.data.toList)

set_option maxRecDepth 100000 in
theorem frame_big (s : ByteArray) (h : (65536 : Int) < (s.size : Int)) (w : World) :
    Calls Tryz.prog 75 #[.string s] w fun e w' => e = .returned (.tuple #[.string ⟨#[]⟩, .int .i64 12]) ∧ w' = w := by
  go_enter Tryz.func75, Tryz.ntmps75
  go_wp2
  go_ret2
  exact ⟨rfl, rfl⟩
set_option maxRecDepth 100000 in
theorem frame_ok (s : ByteArray) (h : (s.size : Int) ≤ (65536 : Int)) (w : World) :
    Calls Tryz.prog 75 #[.string s] w fun e w' => e = .returned (.tuple #[.string (strL (frameL s)), .int .i64 0]) ∧ Below w.heap.size w w' := by
  obtain ⟨n, hn⟩ : ∃ n, w.heap.size = n := ⟨_, rfl⟩
  have hz : (textL s).length ≤ s.size + 10 := by
    have := numL_len10 s.size (by omega)
    have e : s.data.toList.length = s.size := rfl
    rw [textL, List.length_append, e]; omega
  have hW0 : Wr (w.alloc (.cells #[.slice none 0 0] 131)) n [] := hn ▸ wr_new w
  have hb0 : Below n w (w.alloc (.cells #[.slice none 0 0] 131)) := (Below.refl _ _).alloc (by omega) _
  have hz0 : (w.alloc (.cells #[.slice none 0 0] 131)).heap.size = n + 1 := by simp [hn]
  have ht : Hid (Calls Tryz.prog 73 #[.pointer (some ⟨n, 0, none⟩), .slice (some ⟨n + 1, 0, none⟩) 1 1] ((w.alloc (.cells #[.slice none 0 0] 131)).alloc (.cells #[.string s] 9)) fun e w' => e = .returned (.pointer (some ⟨n, 0, none⟩)) ∧ Wr w' n (textL s) ∧ WUpd n (w.alloc (.cells #[.slice none 0 0] 131)) w') := by
    have := wtexts_one n [] s trivial (w.alloc (.cells #[.slice none 0 0] 131)) (n + 1) hz0 hW0 (by simp; omega)
    rw [List.nil_append] at this
    exact this
  have hck : Hid (∀ W, Calls Tryz.prog 124 #[.string s] W fun e w' => e = .returned (.string (strL (four (crc s.data.toList)))) ∧ Below W.heap.size W w') := fun W => checkOf_any s (by omega) W
  have hraw : Hid (∀ (W : World) (N : Nat), W.heap.size = N → Wr W n (textL s) → Calls Tryz.prog 123 #[.pointer (some ⟨n, 0, none⟩), .slice (some ⟨N, 0, none⟩) 1 1] (W.alloc (.cells #[.string (strL (four (crc s.data.toList)))] 9)) fun e w' => e = .returned (.pointer (some ⟨n, 0, none⟩)) ∧ Wr w' n (frameL s) ∧ WUpd n W w') := fun W N hN hW =>
    wraws_one n (textL s) (strL (four (crc s.data.toList))) trivial W N hN hW (by rw [show (rawL (strL (four (crc s.data.toList)))).length = 4 from rfl]; omega)
  generalize strL (four (crc s.data.toList)) = q at *
  generalize frameL s = fr at *
  rw [hn]
  go_enter Tryz.func75, Tryz.ntmps75
  go_wp2_with (first
    | (go_at_call 73; refine ht.out.mono ?_; rintro e w1 ⟨rfl, h1, u1⟩)
    | (go_at_call 124; refine (hck.out _).mono ?_; rintro e w2 ⟨rfl, b2⟩; obtain ⟨n2, hn2⟩ : ∃ n2, w2.heap.size = n2 := ⟨_, rfl⟩; have h2 := h1.below b2)
    | (go_at_call 123; refine (hraw.out w2 n2 hn2 h2).mono ?_; rintro e w3 ⟨rfl, h3, u3⟩)
    | (go_at_call 76; refine (bytes_some n fr _ h3).mono ?_; rintro e w4 ⟨rfl, rfl⟩))
  go_ret2
  have z1 := u1.size
  exact ⟨rfl, ((hb0.trans (u1.below (Nat.le_refl _))).trans (b2.mono (by omega))).trans (u3.below (Nat.le_refl _))⟩
end Go.Proofs.YtfmmholkeadejaaGreatDoor.Pk

/- Which error Unframe tells. -/
namespace Go.Proofs.YtfmmholkeadejaaGreatDoor.Pk
open Go.RowKit

/-- The body and the check of what stands behind the number. -/
def uB (s : ByteArray) : ByteArray := (nR s).extract 0 (nV s)
def uC (s : ByteArray) : ByteArray := ((nR s).extract (nV s) (nR s).size).extract 0 4
/-- Unframe's error. -/
def uE (s : ByteArray) : Int :=
  if nE s = 0 then (if 65536 < nV s then 12 else if (nR s).size < nV s + 4 then 10 else if ((uC s).toList == (strL (four (crc (uB s).data.toList))).toList) then 0 else 13) else nE s
/-- What Unframe leaves. -/
def UnP (E : Int) (Bd : ByteArray) (k : Int) (w : World) (x : Ending) (w' : World) : Prop := ∃ (b : ByteArray) (n : Int), x = .returned (.tuple #[.string b, .int .i64 n, .int .i64 E]) ∧ Below w.heap.size w w' ∧ (E = 0 → b = Bd ∧ n = k)
/-- What stands behind a frame. -/
def uR (s : ByteArray) : ByteArray := ((nR s).extract (nV s) (nR s).size).extract 4 ((nR s).extract (nV s) (nR s).size).size

set_option maxHeartbeats 1600000 in
set_option maxRecDepth 100000 in
theorem unframe_any (s : ByteArray) (hs : s.size < 9223372036854775808) (w : World) : Calls Tryz.prog 177 #[.string s] w (UnP (uE s) (uB s) ((s.size : Int) - ((uR s).size : Int)) w) := by
  obtain ⟨m, hm⟩ : ∃ m, w.heap.size = m := ⟨_, rfl⟩
  have c18 : Hid (Calls Tryz.prog 178 #[.string s] w fun x w' => x = .returned (.pointer (some ⟨m, 0, none⟩)) ∧ Rd w' m s 0 ∧ Below m w w') := hm ▸ read_any s w
  have c42 : Hid (∀ W, Rd W m s 0 → Calls Tryz.prog 204 #[.pointer (some ⟨m, 0, none⟩)] W (ReadP m (.int .u64 (nV s : Int)) (nE s) (nR s) W)) := fun W hW => num_read m s hs W hW
  have hlt := nV_lt s
  have hz := nR_size s
  have h41 : Hid (∀ W, Calls Tryz.prog 124 #[.string (uB s)] W fun e w' => e = .returned (.string (strL (four (crc (uB s).data.toList)))) ∧ Below W.heap.size W w') := fun W => checkOf_any (uB s) (by unfold uB; simp; omega) W
  obtain ⟨E0, hE0⟩ : ∃ E0, uE s = E0 := ⟨_, rfl⟩
  rw [hE0]
  have HE : Hid (uE s = E0) := hE0
  clear hE0
  unfold uE uB uC at HE
  unfold uB at h41 ⊢
  unfold uR
  generalize nV s = n at *
  generalize nE s = E at *
  generalize nR s = R at *
  by_cases hE : E = 0
  · subst hE
    by_cases h1 : (65536 : Int) < (n : Int)
    · have hq : E0 = 12 := by have := HE.out; rw [if_pos rfl, if_pos (by omega)] at this; exact this.symm
      subst hq
      go_enter Tryz.func177, Tryz.ntmps177
      go_wp2_with (first
        | (go_at_call 178; refine c18.out.mono ?_; rintro e w1 ⟨rfl, r1, b1⟩)
        | (go_at_call 204; refine (c42.out _ r1).mono ?_; rintro e w2 ⟨rfl, ⟨s', r2, h2⟩, u2⟩; have h2 := h2 rfl; subst h2))
      go_ret3
      exact ⟨_, _, rfl, hm ▸ (b1.trans (u2.below (Nat.le_refl _) (by have := b1.size; omega))), fun h => absurd h (by first | decide | exact hE)⟩
    · by_cases h2 : (R.size : Int) < (n : Int) + 4
      · have hq : E0 = 10 := by have := HE.out; rw [if_pos rfl, if_neg (by omega), if_pos (by omega)] at this; exact this.symm
        subst hq
        go_enter Tryz.func177, Tryz.ntmps177
        go_wp2_with (first
          | (go_at_call 178; refine c18.out.mono ?_; rintro e w1 ⟨rfl, r1, b1⟩)
          | (go_at_call 204; refine (c42.out _ r1).mono ?_; rintro e w2 ⟨rfl, ⟨s', r2, h2⟩, u2⟩; have h2 := h2 rfl; subst h2; have c2 : w2.cell? ⟨m, 0, none⟩ = some (.string s') := r2.at 0 _ rfl))
        go_ret3
        exact ⟨_, _, rfl, hm ▸ (b1.trans (u2.below (Nat.le_refl _) (by have := b1.size; omega))), fun h => absurd h (by first | decide | exact hE)⟩
      · have HE2 : Hid ((if ((R.extract n R.size).extract 0 4).toList == (strL (four (crc (R.extract 0 n).data.toList))).toList then (0 : Int) else 13) = E0) := by
          have := HE.out
          rw [if_pos rfl, if_neg (by omega), if_neg (by omega)] at this
          exact this
        clear HE
        have hRn : (R.extract n R.size).size = R.size - n := by simp
        generalize hR2 : R.extract n R.size = R2 at *
        generalize hB : R.extract 0 n = Bd at *
        generalize strL (four (crc Bd.data.toList)) = Q at *
        have k43 : Hid (∀ W, Rd W m R 0 → Calls Tryz.prog 205 #[.pointer (some ⟨m, 0, none⟩), .int .i64 (n : Int)] W fun x w' => x = .returned (.string Bd) ∧ Rd w' m R2 0 ∧ Upd m W w') := fun W hW => by
          have := cut_any m R 0 n (by omega) W hW
          rw [hR2, hB] at this
          exact this
        have k43b : Hid (∀ W, Rd W m R2 0 → Calls Tryz.prog 205 #[.pointer (some ⟨m, 0, none⟩), .int .i64 4] W fun x w' => x = .returned (.string (R2.extract 0 4)) ∧ Rd w' m (R2.extract 4 R2.size) 0 ∧ Upd m W w') := fun W hW => cut_any m R2 0 4 (by omega) W hW
        generalize R2.extract 0 4 = C4 at *
        generalize hR3e : R2.extract 4 R2.size = R3 at *
        have hR3 : R3.size + 4 ≤ R2.size := by rw [← hR3e]; simp; omega
        clear hR2 hB hR3e
        cases hcmp : (C4.toList == Q.toList) with
        | false =>
          have hq : E0 = 13 := by have := HE2.out; rw [hcmp] at this; exact this.symm
          subst hq
          go_enter Tryz.func177, Tryz.ntmps177
          go_wp2_with (first
            | (go_at_call 178; refine c18.out.mono ?_; rintro e w1 ⟨rfl, r1, b1⟩)
            | (go_at_call 204; refine (c42.out _ r1).mono ?_; rintro e w2 ⟨rfl, ⟨s', r2, h2⟩, u2⟩; have h2 := h2 rfl; subst h2; have c2 : w2.cell? ⟨m, 0, none⟩ = some (.string s') := r2.at 0 _ rfl)
            | (go_at_call 205; refine (k43b.out _ r3).mono ?_; rintro e w4 ⟨rfl, r4, u4⟩)
            | (go_at_call 205; refine (k43.out _ r2).mono ?_; rintro e w3 ⟨rfl, r3, u3⟩)
            | (go_at_call 124; refine (h41.out _).mono ?_; rintro e w5 ⟨rfl, b5⟩))
          go_ret3
          have z1 := b1.size
          have z4 : m ≤ w4.heap.size := by have := u2.size; have := u3.size; have := u4.size; omega
          have hb : Below m w w5 := (b1.trans ((u2.trans (u3.trans u4)).below (Nat.le_refl _) (by omega))).trans (b5.mono (by omega))
          exact ⟨_, _, rfl, hm ▸ hb, fun h => absurd h (by decide)⟩
        | true =>
          have hq : E0 = 0 := by have := HE2.out; rw [hcmp] at this; exact this.symm
          subst hq
          go_enter Tryz.func177, Tryz.ntmps177
          go_wp2_with (first
            | (go_at_call 178; refine c18.out.mono ?_; rintro e w1 ⟨rfl, r1, b1⟩)
            | (go_at_call 204; refine (c42.out _ r1).mono ?_; rintro e w2 ⟨rfl, ⟨s', r2, h2⟩, u2⟩; have h2 := h2 rfl; subst h2; have c2 : w2.cell? ⟨m, 0, none⟩ = some (.string s') := r2.at 0 _ rfl)
            | (go_at_call 205; refine (k43b.out _ r3).mono ?_; rintro e w4 ⟨rfl, r4, u4⟩)
            | (go_at_call 205; refine (k43.out _ r2).mono ?_; rintro e w3 ⟨rfl, r3, u3⟩)
            | (go_at_call 124; refine (h41.out _).mono ?_; rintro e w5 ⟨rfl, b5⟩; have r5 := r4.below b5 r4.lt; have c5 : w5.cell? ⟨m, 0, none⟩ = some (.string R3) := r5.at 0 _ rfl))
          have z1 := b1.size
          have z4 : m ≤ w4.heap.size := by have := u2.size; have := u3.size; have := u4.size; omega
          have hb : Below m w w5 := (b1.trans ((u2.trans (u3.trans u4)).below (Nat.le_refl _) (by omega))).trans (b5.mono (by omega))
          go_region
          all_goals
            go_wp2
            go_ret3
            refine ⟨_, _, rfl, hm ▸ hb.drew, fun _ => ⟨rfl, ?_⟩⟩
            first | rfl | (simp only [Int.ofNat_eq_natCast]; omega)
  · have hq : E0 = E := by have := HE.out; rw [if_neg hE] at this; exact this.symm
    subst hq
    go_enter Tryz.func177, Tryz.ntmps177
    go_wp2_with (first
      | (go_at_call 178; refine c18.out.mono ?_; rintro e w1 ⟨rfl, r1, b1⟩)
      | (go_at_call 204; refine (c42.out _ r1).mono ?_; rintro e w2 ⟨rfl, ⟨s', r2, h2⟩, u2⟩))
    go_ret3
    exact ⟨_, _, rfl, hm ▸ (b1.trans (u2.below (Nat.le_refl _) (by have := b1.size; omega))), fun h => absurd h (by first | decide | exact hE)⟩
end Go.Proofs.YtfmmholkeadejaaGreatDoor.Pk

/- What was taken up of any bytes is laid down as the bytes that it took, kind by kind. -/
namespace Go.Proofs.YtfmmholkeadejaaGreatDoor.Pk
open Go.RowKit

theorem intV_fits (v : Nat) (h : v < 18446744073709551616) : -9223372036854775808 ≤ intV v ∧ intV v < 9223372036854775808 := by
  unfold intV
  split <;> omega
theorem zig_intV (v : Nat) : zig (intV v) = v := by
  unfold intV zig
  split <;> split <;> omega
theorem wrap_wrap (x : Int) (h : -9223372036854775808 ≤ x ∧ x < 9223372036854775808) : wrap64 (IntKind.u64.wrap x) = x := by
  rw [wrap_u64]
  unfold wrap64
  omega
theorem u64_nat (x : Int) : ∃ m : Nat, IntKind.u64.wrap x = (m : Int) ∧ m < 18446744073709551616 := by
  rw [wrap_u64]
  exact ⟨(x % 18446744073709551616).toNat, by omega, by omega⟩

theorem str_ext {a b : ByteArray} (h : a.data.toList = b.data.toList) : a = b := by
  obtain ⟨⟨x⟩⟩ := a
  obtain ⟨⟨y⟩⟩ := b
  have : x = y := h
  rw [this]
/-- The text s begins with the bytes bs, and R is what stands behind them. -/
def Parts (s : ByteArray) (bs : List UInt8) (R : ByteArray) : Prop := s.data.toList = bs ++ R.data.toList
theorem Parts.size {s R : ByteArray} {bs : List UInt8} (h : Parts s bs R) : s.size = bs.length + R.size := by
  have : s.data.toList.length = (bs ++ R.data.toList).length := by rw [h]
  rw [List.length_append] at this
  exact this
theorem Parts.head {s R : ByteArray} {bs : List UInt8} (h : Parts s bs R) : s.extract 0 bs.length = strL bs := by
  apply str_ext
  rw [ext_head, h, List.take_left]; rfl
theorem num_parts (s : ByteArray) (h : nE s = 0) : Parts s (numL (nV s)) (nR s) := by
  unfold Parts nR
  rw [num_one h, ext_tail, numB, List.take_append_drop]
theorem flag_parts (s : ByteArray) (h : fE s = 0) : Parts s (flagL (flV s)) (fR s) := by
  unfold Parts fR
  rw [ext_tail]
  have h0 : ¬ s.size = 0 := fun e => by rw [fE, if_pos e] at h; cases h
  have h1 : ¬ 1 < (s.data.toList.getD 0 0).toNat := fun e => by rw [fE, if_neg h0, if_pos e] at h; cases h
  rw [flV, if_pos h]
  unfold fV flagL
  have hl : s.data.toList.length = s.size := rfl
  cases hd : s.data.toList with
  | nil => rw [hd] at hl; simp at hl; omega
  | cons x r =>
    rw [hd] at h1
    simp at h1 ⊢
    by_cases hx : x.toNat = 1
    · rw [if_pos hx]
      exact UInt8.toNat_inj.1 hx
    · rw [if_neg hx]
      exact UInt8.toNat_inj.1 (by have : x.toNat = 0 := by omega
                                  exact this)
theorem text_parts (s : ByteArray) (h : textE s = 0) : Parts s (textL (txV s)) (textR s) ∧ (txV s).size = nV s := by
  have hE : nE s = 0 := by
    unfold textE at h
    split at h
    · assumption
    · exact h
  have hle : nV s ≤ (nR s).size := by
    unfold textE at h
    rw [if_pos hE] at h
    split at h
    · cases h
    · omega
  have hz : (txV s).size = nV s := by rw [txV, if_pos h, textV]; simp; omega
  refine ⟨?_, hz⟩
  have := num_parts s hE
  unfold Parts at this ⊢
  rw [this, textL, hz, txV, if_pos h, textV, textR, ext_head, ext_tail, List.append_assoc, List.take_append_drop]
end Go.Proofs.YtfmmholkeadejaaGreatDoor.Pk

/- A frame that is cut short, and one of which a byte was turned: which error Unframe tells. -/
namespace Go.Proofs.YtfmmholkeadejaaGreatDoor.Pk

theorem chain_cut : ∀ (l : List UInt8), Chain l → ∀ j, j < l.length → lead (l.take j) = j
  | [], h, _, _ => h.elim
  | [x], _, j, hj => by
    have : j = 0 := by simpa using hj
    subst this; rfl
  | x :: y :: r, h, j, hj => by
    cases j with
    | zero => rfl
    | succ j =>
      rw [List.take_succ_cons, lead, if_pos h.1, chain_cut (y :: r) h.2 j (by simpa using hj)]
theorem behind (t : ByteArray) (n : Nat) (hn : n < 18446744073709551616) (r : List UInt8) (ht : t.data.toList = numL n ++ r) : nE t = 0 ∧ nV t = n ∧ (nR t).data.toList = r := by
  obtain ⟨h1, h2, h3⟩ := num_back n hn r
  refine ⟨by unfold nE; rw [ht]; exact h1, by unfold nV; rw [ht]; exact h2, ?_⟩
  rw [nR, ext_tail, ht, h3, List.drop_left]
/-- Cut short. -/
theorem cut_err (s : ByteArray) (hs : s.size ≤ 65536) (t : ByteArray) (j : Nat) (hj : j < (frameL s).length) (ht : t.data.toList = (frameL s).take j) : uE t = 10 := by
  have hf : frameL s = numL s.size ++ (s.data.toList ++ four (crc s.data.toList)) := by rw [frameL, textL, List.append_assoc]
  have hl : (s.data.toList ++ four (crc s.data.toList)).length = s.size + 4 := by rw [List.length_append]; rfl
  rw [hf] at hj ht
  rw [List.length_append, hl] at hj
  by_cases h : j < (numL s.size).length
  · obtain ⟨_, _, hc⟩ := lead_numL 9 s.size [] (by omega)
    have e : (numL s.size ++ (s.data.toList ++ four (crc s.data.toList))).take j = (numL s.size).take j := by
      rw [List.take_append_of_le_length (by omega)]
    rw [e] at ht
    have hE : nE t = 10 := by
      unfold nE numE
      rw [ht, chain_cut _ hc j h, if_pos (by rw [List.length_take]; omega)]
    rw [uE, if_neg (by rw [hE]; decide), hE]
  · have e : (numL s.size ++ (s.data.toList ++ four (crc s.data.toList))).take j = numL s.size ++ (s.data.toList ++ four (crc s.data.toList)).take (j - (numL s.size).length) := by
      rw [List.take_append, List.take_of_length_le (by omega)]
    rw [e] at ht
    obtain ⟨h1, h2, h3⟩ := behind t s.size (by omega) _ ht
    have hz : (nR t).size = j - (numL s.size).length := by
      show (nR t).data.toList.length = _
      rw [h3, List.length_take, hl]; omega
    rw [uE, if_pos h1, h2, if_neg (by omega), hz, if_pos (by omega)]
theorem cmp_false {a b : ByteArray} (h : a.data.toList ≠ b.data.toList) : (a.toList == b.toList) = false := by
  rw [Go.ByteArray.toList_eq, Go.ByteArray.toList_eq]
  simpa using h
theorem uE_13 (t : ByteArray) (n : Nat) (hn : n ≤ 65536) (b c : List UInt8) (hb : b.length = n) (hc : c.length = 4) (ht : t.data.toList = numL n ++ (b ++ c)) (hne : c ≠ four (crc b)) : uE t = 13 := by
  obtain ⟨h1, h2, h3⟩ := behind t n (by omega) _ ht
  have hz : (nR t).size = n + 4 := by
    show (nR t).data.toList.length = _
    rw [h3, List.length_append, hb, hc]
  have hB : (uB t).data.toList = b := by rw [uB, ext_head, h2, h3, ← hb, List.take_left]
  have hC : (uC t).data.toList = c := by
    rw [uC, ext_head, ext_tail, h2, h3, ← hb, List.drop_left, List.take_of_length_le (by omega)]
  rw [uE, if_pos h1, h2, if_neg (by omega), hz, if_neg (by omega), cmp_false (by rw [hC, strL_list, hB]; exact hne)]
  rfl
/-- One byte turned. -/
theorem turn_err (s : ByteArray) (hs : s.size ≤ 65536) (t : ByteArray) (i : Nat) (hi : i < s.size + 4) (y x : UInt8) (hx : (frameL s)[(numL s.size).length + i]? = some x) (hy : y ≠ x)
    (ht : t.data.toList = (frameL s).take ((numL s.size).length + i) ++ y :: (frameL s).drop ((numL s.size).length + i + 1)) : uE t = 13 := by
  have hf : frameL s = numL s.size ++ (s.data.toList ++ four (crc s.data.toList)) := by rw [frameL, textL, List.append_assoc]
  have hsl : s.data.toList.length = s.size := rfl
  rw [hf, List.getElem?_append_right (by omega), Nat.add_sub_cancel_left] at hx
  rw [hf, List.take_append, List.take_of_length_le (by omega), Nat.add_sub_cancel_left, List.drop_append, List.drop_eq_nil_of_le (by omega), List.nil_append, show (numL s.size).length + i + 1 - (numL s.size).length = i + 1 by omega, List.append_assoc] at ht
  have hset : (s.data.toList ++ four (crc s.data.toList)).take i ++ y :: (s.data.toList ++ four (crc s.data.toList)).drop (i + 1) = (s.data.toList ++ four (crc s.data.toList)).set i y := by
    rw [List.set_eq_take_append_cons_drop, if_pos (by rw [List.length_append, hsl]; exact hi)]
  rw [hset] at ht
  by_cases h : i < s.size
  · rw [List.set_append_left _ _ (by rw [hsl]; exact h)] at ht
    rw [List.getElem?_append_left (by rw [hsl]; exact h)] at hx
    refine uE_13 t s.size hs _ _ (by rw [List.length_set]; exact hsl) (four_length _) ht (fun e => ?_)
    have e := four_inj e
    have e1 : s.data.toList = s.data.toList.take i ++ x :: s.data.toList.drop (i + 1) := by
      have hxi : s.data.toList[i]'(by rw [hsl]; exact h) = x := (List.getElem?_eq_some_iff.1 hx).2
      rw [← hxi, List.getElem_cons_drop, List.take_append_drop]
    have e2 : s.data.toList.set i y = s.data.toList.take i ++ y :: s.data.toList.drop (i + 1) := by
      rw [List.set_eq_take_append_cons_drop, if_pos (by rw [hsl]; exact h)]
    rw [e2] at e
    have := crc_turn (s.data.toList.take i) x y (s.data.toList.drop (i + 1)) (fun e => hy e.symm)
    rw [← e1] at this
    exact this e
  · rw [List.set_append_right _ _ (by rw [hsl]; omega)] at ht
    rw [List.getElem?_append_right (by rw [hsl]; omega)] at hx
    rw [hsl] at ht hx
    refine uE_13 t s.size hs _ _ hsl (by rw [List.length_set]; exact four_length _) ht (fun e => ?_)
    have : ((four (crc s.data.toList)).set (i - s.size) y)[i - s.size]? = some y := by
      rw [List.getElem?_set_self (by rw [four_length]; omega)]
    rw [e, hx] at this
    exact hy (Option.some.inj this).symm
end Go.Proofs.YtfmmholkeadejaaGreatDoor.Pk

/- What was laid down is taken up again, kind by kind. -/
namespace Go.Proofs.YtfmmholkeadejaaGreatDoor.Pk
open Go.RowKit

theorem intV_zig (x : Int) : intV (zig x) = x := by
  unfold zig intV
  split <;> split <;> omega
theorem back_int (u : ByteArray) (x : Int) (hx : -9223372036854775808 ≤ x ∧ x < 9223372036854775808) (r : List UInt8) (hu : u.data.toList = numL (zig x) ++ r) : nE u = 0 ∧ intV (nV u) = x ∧ (nR u).data.toList = r := by
  obtain ⟨h1, h2, h3⟩ := behind u (zig x) (zig_lt x hx) r hu
  exact ⟨h1, by rw [h2, intV_zig], h3⟩
theorem back_flag (u : ByteArray) (b : Bool) (r : List UInt8) (hu : u.data.toList = flagL b ++ r) : fE u = 0 ∧ flV u = b ∧ (fR u).data.toList = r := by
  have hz : u.size = (flagL b ++ r).length := by
    show u.data.toList.length = _
    rw [hu]
  have h0 : ¬ u.size = 0 := by rw [hz]; simp [flagL]
  have hE : fE u = 0 := by
    rw [fE, if_neg h0, hu]
    cases b <;> simp [flagL]
  refine ⟨hE, ?_, by rw [fR, ext_tail, hu]; rfl⟩
  rw [flV, if_pos hE, fV, hu]
  cases b <;> rfl
theorem back_text (u s : ByteArray) (hs : s.size < 18446744073709551616) (r : List UInt8) (hu : u.data.toList = textL s ++ r) : textE u = 0 ∧ txV u = s ∧ (textR u).data.toList = r := by
  rw [textL, List.append_assoc] at hu
  obtain ⟨h1, h2, h3⟩ := behind u s.size hs _ hu
  have hl : s.data.toList.length = s.size := rfl
  have hz : (nR u).size = s.size + r.length := by
    show (nR u).data.toList.length = _
    rw [h3, List.length_append, hl]
  have hE : textE u = 0 := by rw [textE, if_pos h1, h2, if_neg (by omega)]
  refine ⟨hE, ?_, ?_⟩
  · rw [txV, if_pos hE, textV, h2]
    apply str_ext
    rw [ext_head, h3, ← hl, List.take_left]
  · rw [textR, ext_tail, h2, h3, ← hl, List.drop_left]
theorem back_raw (u s : ByteArray) (r : List UInt8) (hu : u.data.toList = rawL s ++ r) : rawE u (s.size : Int) = 0 ∧ rwV u (s.size : Int) = s ∧ (rawR u (s.size : Int)).data.toList = r := by
  have hl : s.data.toList.length = s.size := rfl
  have hu : u.data.toList = s.data.toList ++ r := hu
  have hz : u.size = s.size + r.length := by
    show u.data.toList.length = _
    rw [hu, List.length_append, hl]
  have hE : rawE u (s.size : Int) = 0 := by rw [rawE, Int.toNat_natCast, if_neg (by omega)]
  refine ⟨hE, ?_, ?_⟩
  · rw [rwV, if_pos hE, rawV, Int.toNat_natCast]
    apply str_ext
    rw [ext_head, hu, ← hl, List.take_left]
  · rw [rawR, Int.toNat_natCast, ext_tail, hu, ← hl, List.drop_left]

theorem short_num (u : ByteArray) (n : Nat) (hn : n < 18446744073709551616) (j : Nat) (hj : j < (numL n).length) (hu : u.data.toList = (numL n).take j) : nE u = 10 := by
  obtain ⟨_, _, hc⟩ := lead_numL 9 n [] (Nat.lt_of_lt_of_le hn (by decide))
  unfold nE numE
  rw [hu, chain_cut _ hc j hj, if_pos (by rw [List.length_take]; omega)]
theorem short_flag (u : ByteArray) (b : Bool) (j : Nat) (hj : j < (flagL b).length) (hu : u.data.toList = (flagL b).take j) : fE u = 10 := by
  have h0 : j = 0 := by simp [flagL] at hj; omega
  subst h0
  have hz : u.size = 0 := by
    show u.data.toList.length = 0
    rw [hu]; rfl
  rw [fE, if_pos hz]
theorem short_text (u s : ByteArray) (hs : s.size < 18446744073709551616) (j : Nat) (hj : j < (textL s).length) (hu : u.data.toList = (textL s).take j) : textE u = 10 := by
  have hl : s.data.toList.length = s.size := rfl
  rw [textL, List.length_append, hl] at hj
  by_cases h : j < (numL s.size).length
  · rw [textL, List.take_append_of_le_length (by omega)] at hu
    have := short_num u s.size hs j h hu
    rw [textE, if_neg (by rw [this]; decide), this]
  · rw [textL, List.take_append, List.take_of_length_le (by omega)] at hu
    obtain ⟨h1, h2, h3⟩ := behind u s.size hs _ hu
    have hz : (nR u).size = j - (numL s.size).length := by
      show (nR u).data.toList.length = _
      rw [h3, List.length_take, hl]; omega
    rw [textE, if_pos h1, h2, hz, if_pos (by omega)]
theorem short_raw (u s : ByteArray) (j : Nat) (hj : j < s.size) (hu : u.data.toList = (rawL s).take j) : rawE u (s.size : Int) = 10 := by
  have hl : (rawL s).length = s.size := rfl
  have hz : u.size = j := by
    show u.data.toList.length = _
    rw [hu, List.length_take, hl]; omega
  rw [rawE, Int.toNat_natCast, hz, if_pos hj]
end Go.Proofs.YtfmmholkeadejaaGreatDoor.Pk
