/- Iter, Keys, List. -/
import Derived.Shelf.SlIter.Nil
import Derived.Shelf.SortM.Plain
import Derived.Shelf.SortM.SortNone
import Derived.Ground.GgzProg
import Derived.Ground.SlgmProg
import Derived.Shelf.SlGeneric
import Derived.Test.YtfmmholkeadejaaGreatDoorProg
import Derived.Shelf.SlicesE.DeleteFunc
import Derived.Ground.SlgfProg
import Derived.Sort.OwnSorted
import Derived.Test.YtfmmholkeadejaaGreatDoorZD3
/- A map's keys, sorted: the library's calls at this program. -/
namespace Go.Proofs.YtfmmholkeadejaaGreatDoor
open Go.RowKit Go.Maps Go.Sort Go.Shelf
def Tryz.keys59_ren : Go.Shelf.Ren := ⟨fun | 7 => 118 | 10 => 160 | n => n, fun | 23 => 120 | 26 => 9 | 3 => 124 | 28 => 167 | 0 => 0 | 27 => 166 | 33 => 45 | 4 => 4 | n => n, fun | n => n⟩
theorem Tryz.keys59 : Go.Proofs.SlLaysZ.n7 Tryz.prog Tryz.keys59_ren := {
  mixed := by kernel_rfl
  f7 := ⟨Tryz.f118.name, by decide, Tryz.func118.trans (congrArg some (by kernel_rfl))⟩
  f10 := ⟨Tryz.f160.name, by decide, Tryz.func160.trans (congrArg some (by kernel_rfl))⟩
  t0 := Tryz.underlying0
  a0 := Tryz.isAgg0
  z0 := Tryz.sizeOf0
  v0 := Tryz.zeroValue0
  t4 := Tryz.underlying4
  a4 := Tryz.isAgg4
  z4 := Tryz.sizeOf4
  v4 := Tryz.zeroValue4
  t23 := Tryz.underlying120
  a23 := Tryz.isAgg120
  z23 := Tryz.sizeOf120
  v23 := Tryz.zeroValue120
  t26 := Tryz.underlying9
  a26 := Tryz.isAgg9
  z26 := Tryz.sizeOf9
  v26 := Tryz.zeroValue9
  t27 := Tryz.underlying166
  a27 := Tryz.isAgg166
  z27 := Tryz.sizeOf166
  v27 := Tryz.zeroValue166
  t28 := Tryz.underlying167
  a28 := Tryz.isAgg167
  z28 := Tryz.sizeOf167
  v28 := Tryz.zeroValue167
  t33 := Tryz.underlying45
  a33 := Tryz.isAgg45
  z33 := Tryz.sizeOf45
  v33 := Tryz.zeroValue45 }
def Tryz.sorted58_ren : Go.Shelf.Ren := ⟨fun | 6 => 117 | 8 => 158 | 9 => 159 | 11 => 193 | 13 => 156 | 12 => 194 | 23 => 191 | 24 => 192 | 14 => 213 | 15 => 214 | 16 => 215 | 17 => 216 | 18 => 217 | 19 => 218 | 20 => 219 | 21 => 220 | 22 => 221 | 25 => 230 | 26 => 209 | 27 => 210 | 28 => 231 | 29 => 232 | 30 => 233 | 31 => 238 | n => n, fun | 26 => 9 | 28 => 167 | 24 => 108 | 0 => 0 | 3 => 3 | 37 => 189 | 48 => 186 | 50 => 68 | 4 => 4 | 40 => 206 | 39 => 205 | 45 => 210 | 5 => 5 | 9 => 9 | 51 => 229 | 55 => 232 | 57 => 245 | 58 => 246 | 33 => 45 | n => n, fun | n => n⟩
theorem Tryz.sorted58 : Go.Proofs.SlLaysZ.n6 Tryz.prog Tryz.sorted58_ren := {
  mixed := by kernel_rfl
  f6 := ⟨Tryz.f117.name, by decide, Tryz.func117.trans (congrArg some (by kernel_rfl))⟩
  f8 := ⟨Tryz.f158.name, by decide, Tryz.func158.trans (congrArg some (by kernel_rfl))⟩
  f11 := ⟨Tryz.f193.name, by decide, Tryz.func193.trans (congrArg some (by kernel_rfl))⟩
  t0 := Tryz.underlying0
  a0 := Tryz.isAgg0
  z0 := Tryz.sizeOf0
  v0 := Tryz.zeroValue0
  t24 := Tryz.underlying108
  a24 := Tryz.isAgg108
  z24 := Tryz.sizeOf108
  v24 := Tryz.zeroValue108
  t26 := Tryz.underlying9
  a26 := Tryz.isAgg9
  z26 := Tryz.sizeOf9
  v26 := Tryz.zeroValue9
  t28 := Tryz.underlying167
  a28 := Tryz.isAgg167
  z28 := Tryz.sizeOf167
  v28 := Tryz.zeroValue167
  i26 := by kernel_rfl }
def Tryz.sort65_ren : Go.Shelf.Ren := ⟨fun | 6 => 159 | 8 => 156 | 9 => 194 | 19 => 191 | 20 => 192 | 21 => 213 | 22 => 214 | 23 => 215 | 24 => 216 | 25 => 217 | 26 => 218 | 27 => 219 | 28 => 220 | 29 => 221 | 36 => 230 | 31 => 209 | 32 => 210 | 37 => 231 | 38 => 232 | 39 => 233 | 41 => 238 | n => n, fun | 27 => 108 | 29 => 9 | 3 => 3 | 32 => 189 | 26 => 108 | 0 => 0 | 44 => 186 | 46 => 68 | 4 => 4 | 36 => 206 | 35 => 205 | 41 => 210 | 5 => 5 | 9 => 9 | 53 => 229 | 57 => 232 | 63 => 245 | 64 => 246 | n => n, fun | n => n⟩
theorem Tryz.sort65 : Go.Proofs.SlLaysM.n6 Tryz.prog Tryz.sort65_ren := {
  mixed := by kernel_rfl
  f6 := ⟨Tryz.f159.name, by decide, Tryz.func159.trans (congrArg some (by kernel_rfl))⟩
  f8 := Tryz.func156.trans (congrArg some (by kernel_rfl))
  f9 := ⟨Tryz.f194.name, by decide, Tryz.func194.trans (congrArg some (by kernel_rfl))⟩
  f19 := Tryz.func191.trans (congrArg some (by kernel_rfl))
  f20 := Tryz.func192.trans (congrArg some (by kernel_rfl))
  f21 := ⟨Tryz.f213.name, by decide, Tryz.func213.trans (congrArg some (by kernel_rfl))⟩
  f22 := ⟨Tryz.f214.name, by decide, Tryz.func214.trans (congrArg some (by kernel_rfl))⟩
  f23 := ⟨Tryz.f215.name, by decide, Tryz.func215.trans (congrArg some (by kernel_rfl))⟩
  f24 := ⟨Tryz.f216.name, by decide, Tryz.func216.trans (congrArg some (by kernel_rfl))⟩
  f25 := ⟨Tryz.f217.name, by decide, Tryz.func217.trans (congrArg some (by kernel_rfl))⟩
  f26 := ⟨Tryz.f218.name, by decide, Tryz.func218.trans (congrArg some (by kernel_rfl))⟩
  f27 := ⟨Tryz.f219.name, by decide, Tryz.func219.trans (congrArg some (by kernel_rfl))⟩
  f28 := ⟨Tryz.f220.name, by decide, Tryz.func220.trans (congrArg some (by kernel_rfl))⟩
  f29 := ⟨Tryz.f221.name, by decide, Tryz.func221.trans (congrArg some (by kernel_rfl))⟩
  f31 := Tryz.func209.trans (congrArg some (by kernel_rfl))
  f32 := Tryz.func210.trans (congrArg some (by kernel_rfl))
  f36 := ⟨Tryz.f230.name, by decide, Tryz.func230.trans (congrArg some (by kernel_rfl))⟩
  f37 := ⟨Tryz.f231.name, by decide, Tryz.func231.trans (congrArg some (by kernel_rfl))⟩
  f38 := ⟨Tryz.f232.name, by decide, Tryz.func232.trans (congrArg some (by kernel_rfl))⟩
  f39 := ⟨Tryz.f233.name, by decide, Tryz.func233.trans (congrArg some (by kernel_rfl))⟩
  f41 := ⟨Tryz.f238.name, by decide, Tryz.func238.trans (congrArg some (by kernel_rfl))⟩
  t0 := Tryz.underlying0
  a0 := Tryz.isAgg0
  z0 := Tryz.sizeOf0
  v0 := Tryz.zeroValue0
  t3 := Tryz.underlying3
  a3 := Tryz.isAgg3
  z3 := Tryz.sizeOf3
  v3 := Tryz.zeroValue3
  t4 := Tryz.underlying4
  a4 := Tryz.isAgg4
  z4 := Tryz.sizeOf4
  v4 := Tryz.zeroValue4
  t5 := Tryz.underlying5
  a5 := Tryz.isAgg5
  z5 := Tryz.sizeOf5
  v5 := Tryz.zeroValue5
  t9 := Tryz.underlying9
  a9 := Tryz.isAgg9
  z9 := Tryz.sizeOf9
  v9 := Tryz.zeroValue9
  t26 := Tryz.underlying108
  a26 := Tryz.isAgg108
  z26 := Tryz.sizeOf108
  v26 := Tryz.zeroValue108
  t27 := Tryz.underlying108
  a27 := Tryz.isAgg108
  z27 := Tryz.sizeOf108
  v27 := Tryz.zeroValue108
  t29 := Tryz.underlying9
  a29 := Tryz.isAgg9
  z29 := Tryz.sizeOf9
  v29 := Tryz.zeroValue9
  t32 := Tryz.underlying189
  a32 := Tryz.isAgg189
  z32 := Tryz.sizeOf189
  v32 := Tryz.zeroValue189
  t35 := Tryz.underlying205
  a35 := Tryz.isAgg205
  z35 := Tryz.sizeOf205
  v35 := Tryz.zeroValue205
  t36 := Tryz.underlying206
  a36 := Tryz.isAgg206
  z36 := Tryz.sizeOf206
  v36 := Tryz.zeroValue206
  t41 := Tryz.underlying210
  a41 := Tryz.isAgg210
  z41 := Tryz.sizeOf210
  v41 := Tryz.zeroValue210
  t44 := Tryz.underlying186
  a44 := Tryz.isAgg186
  z44 := Tryz.sizeOf186
  v44 := Tryz.zeroValue186
  t46 := Tryz.underlying68
  a46 := Tryz.isAgg68
  z46 := Tryz.sizeOf68
  v46 := Tryz.zeroValue68
  t53 := Tryz.underlying229
  a53 := Tryz.isAgg229
  z53 := Tryz.sizeOf229
  v53 := Tryz.zeroValue229
  t57 := Tryz.underlying232
  a57 := Tryz.isAgg232
  z57 := Tryz.sizeOf232
  v57 := Tryz.zeroValue232
  t63 := Tryz.underlying245
  a63 := Tryz.isAgg245
  z63 := Tryz.sizeOf245
  v63 := Tryz.zeroValue245
  t64 := Tryz.underlying246
  a64 := Tryz.isAgg246
  z64 := Tryz.sizeOf246
  v64 := Tryz.zeroValue246 }
theorem Tryz.sorts58 (m : Nat) : AnyZ.SortsIn Tryz.prog Tryz.sorted58_ren Fence.wide m :=
  ⟨fun blk off cap ss W hH hblk hsz => callsIn_wide.2 (AnyM.slices_Sort_string Tryz.sort65 blk off cap ss W hH hblk hsz),
   fun p cap W => callsIn_wide.2 (AnyM.slices_Sort_string_none Tryz.sort65 p cap W)⟩

theorem Tryz.maps_Keys_59 (mb : Option Nat) (W : World) : CallsIn Fence.wide 5 Tryz.prog 118 #[.map mb] W fun e w' => e = .returned (.func (.func 160) #[] #[.pointer (some ⟨W.heap.size, 0, none⟩)]) ∧ w' = W.alloc (.cells #[.map mb] 120) :=
  AnyZ.keys_in Tryz.keys59 Fence.wide 5 trivial rfl mb W

set_option maxHeartbeats 1000000 in
set_option maxRecDepth 100000 in
theorem Tryz.slices_Sorted_keys_58_59 {H : Type} (b nn : Nat) (D0 : DataW H) (R : Value → Option (DataW H × List MemPlace)) (w : World) (hown : w.ownsMap Tryz.prog 9 R b nn D0) (hmax : Maps.size D0 ≤ maxLen) (hbytes : Maps.size D0 * 16 ≤ 140737488355328) :
    CallsIn Fence.wide 5 Tryz.prog 117 #[.func (.func 160) #[] #[.pointer (some ⟨w.heap.size, 0, none⟩)]] (w.alloc (.cells #[.map (some b)] 120)) fun e w' => ∃ (v : Value) (ss : List (List UInt8)), e = .returned v ∧ ss.Perm (strKeys D0) ∧
      w'.ownsRow (w.alloc (.cells #[.map (some b)] 120)).heap.size 9 1 v ss.length ((ss.mergeSort (fun x y => decide (x ≤ y))).map encStr) ∧ (v = .slice none 0 0 ↔ ss = []) ∧ Below (w.alloc (.cells #[.map (some b)] 120)).heap.size (w.alloc (.cells #[.map (some b)] 120)) w' := by
  have hbl := hown.lt
  have hseq : SeqGives Fence.wide 2 Tryz.prog 160 #[.pointer (some ⟨w.heap.size, 0, none⟩)] encStr (fun ss => ss.Perm (strKeys D0)) (Maps.size D0) (w.alloc (.cells #[.map (some b)] 120)) :=
    AnyZ.keys_gives (ρ := Tryz.keys59_ren) { Tryz.keys59 with } Fence.wide _ trivial rfl (by omega) w.heap.size b nn D0 _ (by simp) (by simp) (by
      obtain ⟨es, clock, hb, Ft, hs, hD⟩ := hown
      exact ⟨es, clock, (Below.heap_alloc _ _ b hbl).trans hb, Ft, hs, hD⟩)
  exact AnyZ.sorted_in Tryz.sorted58 Fence.wide 5 trivial trivial trivial trivial rfl (by omega) (Tryz.sorts58 _) (enters_of Tryz.func159 (by kernel_rfl) rfl) 160 #[.pointer (some ⟨w.heap.size, 0, none⟩)] trivial (enters_of Tryz.func160 (by kernel_rfl) rfl) _ _ hmax hbytes _ hseq

set_option maxHeartbeats 1000000 in
set_option maxRecDepth 100000 in
theorem Tryz.slices_Sorted_keys_nil_58_59 (w : World) :
    CallsIn Fence.wide 5 Tryz.prog 117 #[.func (.func 160) #[] #[.pointer (some ⟨w.heap.size, 0, none⟩)]] (w.alloc (.cells #[.map none] 120)) fun e w' => ∃ (v : Value) (ss : List (List UInt8)), e = .returned v ∧ ss = [] ∧
      w'.ownsRow (w.alloc (.cells #[.map none] 120)).heap.size 9 1 v ss.length ((ss.mergeSort (fun x y => decide (x ≤ y))).map encStr) ∧ (v = .slice none 0 0 ↔ ss = []) ∧ Below (w.alloc (.cells #[.map none] 120)).heap.size (w.alloc (.cells #[.map none] 120)) w' := by
  have hseq : SeqGives Fence.wide 2 Tryz.prog 160 #[.pointer (some ⟨w.heap.size, 0, none⟩)] encStr (fun ss : List (List UInt8) => ss = []) 0 (w.alloc (.cells #[.map none] 120)) :=
    AnyZ.keys_gives_nil (ρ := Tryz.keys59_ren) { Tryz.keys59 with } Fence.wide _ trivial rfl w.heap.size _ (by simp) (by simp)
  exact AnyZ.sorted_in Tryz.sorted58 Fence.wide 5 trivial trivial trivial trivial rfl (by omega) (Tryz.sorts58 _) (enters_of Tryz.func159 (by kernel_rfl) rfl) 160 #[.pointer (some ⟨w.heap.size, 0, none⟩)] trivial (enters_of Tryz.func160 (by kernel_rfl) rfl) _ 0 (Nat.zero_le _) (by omega) _ hseq




end Go.Proofs.YtfmmholkeadejaaGreatDoor

/- The names of all files, rising. -/
namespace Go.Proofs.YtfmmholkeadejaaGreatDoor
open Go.RowKit Go.Maps Go.WideMaps Go.Sort Go.Shelf

theorem rising_sorted {l : Fs} (h : Rising l) {ss : List (List UInt8)} (hp : ss.Perm (l.map Prod.fst)) : ss.mergeSort (fun x y => decide (x ≤ y)) = l.map Prod.fst := by
  have tr : ∀ a b c : List UInt8, leB a b = true → leB b c = true → leB a c = true := fun a b c h1 h2 => by simp only [leB, decide_eq_true_eq] at *; exact List.le_trans h1 h2
  have to : ∀ a b : List UInt8, (leB a b || leB b a) = true := fun a b => by simp only [leB, Bool.or_eq_true, decide_eq_true_eq]; exact List.le_total a b
  refine List.Perm.eq_of_pairwise (le := fun a b => leB a b = true) (fun a b _ _ h1 h2 => ?_) (List.pairwise_mergeSort tr to ss) (List.pairwise_map.2 (h.imp fun {p q} hlt => ?_)) ((List.mergeSort_perm ss leB).trans hp)
  · simp only [leB, decide_eq_true_eq] at h1 h2
    exact List.le_antisymm h1 h2
  · simp only [leB, decide_eq_true_eq]
    exact List.le_of_lt hlt
set_option maxHeartbeats 1000000 in
theorem names_some (N : Lo) (d : Nat) (S : Dk) (w : World) (h : DiskAt w N d S) :
    Calls Tryz.prog 67 #[.pointer (some ⟨d, 0, none⟩)] w fun e w' => ∃ v, e = .returned v ∧ w'.ownsRow w.heap.size 9 1 v S.fs.length ((S.fs.map Prod.fst).map encStr) ∧ Below w.heap.size w w' := by
  obtain ⟨mv, st, A, V, ho⟩ := h.open
  have c0 := ho.holds.at 0 _ rfl
  rcases ho.map with ⟨rfl, hn⟩ | ⟨mb, n, D, rfl, hNm, hown, hat, hhas⟩
  · have e : S.fs = [] := used_empty ho.files hn
    have e2 : (S.fs.map Prod.fst).map encStr = [] := by rw [e]; rfl
    have e3 : S.fs.length = 0 := by rw [e]; rfl
    rw [e2, e3]
    clear ho h hn e e2 e3
    refine (callsIn_wide (n := 6)).1 ?_
    have hfK : Fence.wide.fn 118 := trivial
    have hfS : Fence.wide.fn 117 := trivial
    refine callsIn_of_wp Tryz.func67 rfl trivial ?_ rfl
    simp only [Tryz.ntmps67, List.size_toArray, List.length_cons, List.length_nil, Nat.reduceAdd, Nat.reduceSub, Array.replicate_succ, Array.replicate_zero, List.push_toArray, List.append_toArray, List.nil_append, List.cons_append]
    gi_wp2_with (first
      | (gi_at_call 118; refine (Tryz.maps_Keys_59 _ _).mono ?_; rintro e w' ⟨rfl, rfl⟩)
      | (gi_at_call 117; refine (Tryz.slices_Sorted_keys_nil_58_59 w).mono ?_; rintro e w' ⟨v, ss, rfl, hS, hrow, hnil, hb⟩))
    go_ret
    refine ⟨v, rfl, ?_, ((Below.refl _ w).alloc (Nat.le_refl _) _).trans (hb.mono (by simp))⟩
    rw [hnil.2 hS]
    exact World.ownsRow_nil _ _ _ _
  · have hsz : Maps.size D ≤ 256 := by
      rw [size_files hown ho.fine.rise (fun k => by rw [hhas, ho.files.some_iff])]
      exact ho.fine.len
    have hperm := keys_perm hown ho.fine.rise (fun k => by rw [hhas, ho.files.some_iff])
    have hfin : Hid (∀ ss : List (List UInt8), ss.Perm (strKeys D) → ss.length = S.fs.length ∧ ss.mergeSort (fun x y => decide (x ≤ y)) = S.fs.map Prod.fst) := fun ss hs => by
      have h1 := hs.trans hperm.symm
      exact ⟨by rw [h1.length_eq, List.length_map], rising_sorted ho.fine.rise h1⟩
    have hmax : Maps.size D ≤ maxLen := by unfold maxLen; omega
    have hbytes : Maps.size D * 16 ≤ 140737488355328 := by omega
    clear ho h hat hhas hperm
    refine (callsIn_wide (n := 6)).1 ?_
    have hfK : Fence.wide.fn 118 := trivial
    have hfS : Fence.wide.fn 117 := trivial
    refine callsIn_of_wp Tryz.func67 rfl trivial ?_ rfl
    simp only [Tryz.ntmps67, List.size_toArray, List.length_cons, List.length_nil, Nat.reduceAdd, Nat.reduceSub, Array.replicate_succ, Array.replicate_zero, List.push_toArray, List.append_toArray, List.nil_append, List.cons_append]
    gi_wp2_with (first
      | (gi_at_call 118; refine (Tryz.maps_Keys_59 _ _).mono ?_; rintro e w' ⟨rfl, rfl⟩)
      | (gi_at_call 117; refine (Tryz.slices_Sorted_keys_58_59 mb n D ptrElem w hown hmax hbytes).mono ?_; rintro e w' ⟨v, ss, rfl, hS, hrow, hnil, hb⟩))
    go_ret
    obtain ⟨q1, q2⟩ := hfin.out ss hS
    rw [q1, q2] at hrow
    exact ⟨v, rfl, ownsRow_base_a hrow (by simp), ((Below.refl _ w).alloc (Nat.le_refl _) _).trans (hb.mono (by simp))⟩
end Go.Proofs.YtfmmholkeadejaaGreatDoor

/- List: the names that begin so. -/
namespace Go.Proofs.YtfmmholkeadejaaGreatDoor
open Go.RowKit Go.Maps Go.WideMaps Go.Shelf Go.Lib

def Tryz.del39_ren : Go.Shelf.Ren := ⟨fun | 10 => 88 | 6 => 133 | n => n, fun | 22 => 108 | 23 => 9 | 25 => 45 | 3 => 3 | 4 => 4 | 0 => 0 | n => n, fun | n => n⟩
theorem Tryz.del39 : Go.Proofs.SlLaysH.n10 Tryz.prog Tryz.del39_ren := {
  mixed := by kernel_rfl
  f6 := ⟨Tryz.f133.name, by decide, Tryz.func133.trans (congrArg some (by kernel_rfl))⟩
  f10 := ⟨Tryz.f88.name, by decide, Tryz.func88.trans (congrArg some (by kernel_rfl))⟩
  t0 := Tryz.underlying0
  a0 := Tryz.isAgg0
  z0 := Tryz.sizeOf0
  v0 := Tryz.zeroValue0
  t3 := Tryz.underlying3
  a3 := Tryz.isAgg3
  z3 := Tryz.sizeOf3
  v3 := Tryz.zeroValue3
  t4 := Tryz.underlying4
  a4 := Tryz.isAgg4
  z4 := Tryz.sizeOf4
  v4 := Tryz.zeroValue4
  t22 := Tryz.underlying108
  a22 := Tryz.isAgg108
  z22 := Tryz.sizeOf108
  v22 := Tryz.zeroValue108
  a23 := Tryz.isAgg9
  z23 := Tryz.sizeOf9
  t25 := Tryz.underlying45
  a25 := Tryz.isAgg45
  z25 := Tryz.sizeOf45
  v25 := Tryz.zeroValue45 }

/-- Does a text begin so? -/
def preS (p s : ByteArray) : Bool := decide (p.size ≤ s.size) && ((s.extract 0 p.size).toList == p.toList)
theorem hasPrefix_in (s p : ByteArray) (w : World) : Calls Tryz.prog 176 #[.string s, .string p] w fun e w' => e = .returned (.bool (preS p s)) ∧ w' = w := by
  by_cases h : (p.size : Int) ≤ (s.size : Int)
  · have hb : preS p s = ((s.extract 0 p.size).toList == p.toList) := by
      have : p.size ≤ s.size := by omega
      simp [preS, this]
    rw [hb]
    go_enter Tryz.func176, Tryz.ntmps176
    go_wp2
    go_ret
    exact ⟨rfl, rfl⟩
  · have hb : preS p s = false := by
      have : ¬ p.size ≤ s.size := by omega
      simp [preS, this]
    rw [hb]
    go_enter Tryz.func176, Tryz.ntmps176
    go_wp2
    go_ret
    exact ⟨rfl, rfl⟩
theorem hasPrefix_any (s p : ByteArray) (w : World) : Calls Tryz.prog 135 #[.string s, .string p] w fun e w' => e = .returned (.bool (preS p s)) ∧ w' = w := by
  go_enter Tryz.func135, Tryz.ntmps135
  go_wp2_with (go_at_call 176; refine (hasPrefix_in s p _).mono ?_; rintro e w2 ⟨rfl, rfl⟩)
  go_ret
  exact ⟨rfl, rfl⟩
theorem not_begins (s p : ByteArray) (bx : Nat) (w : World) (h : w.cell? ⟨bx, 0, none⟩ = some (.string p)) : Calls Tryz.prog 134 #[.string s, .pointer (some ⟨bx, 0, none⟩)] w fun e w' => e = .returned (.bool (!preS p s)) ∧ w' = w := by
  have hp := hasPrefix_any s p w
  generalize preS p s = q at *
  have HP : Hid (Calls Tryz.prog 135 #[.string s, .string p] w fun e w' => e = .returned (.bool q) ∧ w' = w) := hp
  clear hp
  go_enter Tryz.func134, Tryz.ntmps134
  go_wp2_with (go_at_call 135; refine HP.out.mono ?_; rintro e w2 ⟨rfl, rfl⟩)
  go_ret
  exact ⟨rfl, rfl⟩
theorem gives120 (x : List UInt8) (p : ByteArray) (bx : Nat) (W : World) (hc : W.cell? ⟨bx, 0, none⟩ = some (.string p)) : FnGives Tryz.prog 134 #[.pointer (some ⟨bx, 0, none⟩)] #[encStr x] (.bool (!preS p ⟨x.toArray⟩)) W := by
  show Calls Tryz.prog 134 #[encStr x, .pointer (some ⟨bx, 0, none⟩)] W _
  exact (not_begins ⟨x.toArray⟩ p bx W hc).mono fun e w' ⟨h1, h2⟩ => ⟨h1, 0, h2⟩
theorem index_nil (fn : Fn) (x y : Array Value) (w : World) : Calls Tryz.prog 133 #[.slice none 0 0, .func fn x y] w fun e w' => e = .returned (.int .i64 (-1)) ∧ w' = w := by
  go_enter Tryz.func133, Tryz.ntmps133
  go_wp2_with fail
  go_loopw [8] (fun c wr => c = .int .i64 0 ∧ wr = w) (fun c _ => 0)
  case atStart => exact ⟨rfl, rfl⟩
  case round =>
    obtain ⟨rfl, rfl⟩ := hrel
    go_wp2
    go_ret
    exact ⟨rfl, rfl⟩
theorem delete_nil (fn : Fn) (x y : Array Value) (w : World) : Calls Tryz.prog 88 #[.slice none 0 0, .func fn x y] w fun e w' => e = .returned (.slice none 0 0) ∧ w' = w := by
  go_enter Tryz.func88, Tryz.ntmps88
  go_wp2_with (go_at_call 133; refine (index_nil _ _ _ _).mono ?_; rintro e w2 ⟨rfl, rfl⟩)
  go_ret
  exact ⟨rfl, rfl⟩
/-- The names that begin so. -/
def listK (S : Dk) (p : ByteArray) : List (List UInt8) := (S.fs.map Prod.fst).filter fun k => preS p ⟨k.toArray⟩
/-- A list of names in memory. -/
def NamesIn (w : World) (a : Option Addr) (l : List (List UInt8)) : Prop := l = [] ∨ ∃ g, a = some ⟨g, 0, none⟩ ∧ ∀ (i : Nat) (x : List UInt8), l[i]? = some x → w.cell? ⟨g, i, none⟩ = some (.string ⟨x.toArray⟩)
set_option maxHeartbeats 1000000 in
set_option maxRecDepth 100000 in
/-- Names that are not wanted are struck, in a row of the call's own. -/
theorem delete_row (H n : Nat) (v : Value) (xs : List (List UInt8)) (hn : xs.length = n) (p : ByteArray) (bx : Nat) (w : World) (hr : w.ownsRow H 9 1 v n (xs.map encStr)) (hc : w.cell? ⟨bx, 0, none⟩ = some (.string p)) (hbx : bx < H) (hn2 : n ≤ 256) :
    Calls Tryz.prog 88 #[v, .func (.func 134) #[] #[.pointer (some ⟨bx, 0, none⟩)]] w fun e w' => ∃ a c, e = .returned (.slice a (xs.filter fun k => preS p ⟨k.toArray⟩).length c) ∧ NamesIn w' a (xs.filter fun k => preS p ⟨k.toArray⟩) ∧ Below H w w' := by
  rcases hr.2 with ⟨rfl, h0⟩ | ⟨g, cap, cur, rfl, hb, hg, h1, h2, h3, h4⟩
  · have hx : xs = [] := List.eq_nil_of_length_eq_zero (by omega)
    subst hx
    exact (delete_nil _ _ _ w).mono fun e w' ⟨e1, e2⟩ => ⟨none, 0, e1, .inl rfl, by rw [e2]; exact Below.refl _ _⟩
  · have hgl := (Array.getElem?_eq_some_iff.1 hg).1
    have hH : Go.Sort.Holds encStr w g 0 xs.toArray := holds_of_block hg (by simpa [hn] using h4)
    have eg : ∀ args w, (callFunc 134 args).run Tryz.prog w = .ok (.enter 134 args) w := enters_of Tryz.func134 (by kernel_rfl) rfl
    have hpred : PredAt Tryz.prog 134 #[.pointer (some ⟨bx, 0, none⟩)] encStr (fun x => !preS p ⟨x.toArray⟩) w := fun W x hbW => gives120 x p bx W ((hbW.cell (p := ⟨bx, 0, none⟩) (by show bx < w.heap.size; omega)).trans hc)
    have hover : PredOver Tryz.prog 134 #[.pointer (some ⟨bx, 0, none⟩)] encStr (fun x => !preS p ⟨x.toArray⟩) g 0 xs.toArray.size w := fun q os dk x _ => gives120 x p bx _ (by
      unfold sortWorld
      rw [Go.Sort.cell?_grow _ _ _ (by show bx < (Go.Sort.putRow _ _ _ _ _).heap.size; rw [Go.Sort.size_putRow]; show bx < w.heap.size; omega), Go.Sort.cell?_putRow_other _ _ g 0 _ _ (Or.inl (by show bx ≠ g; omega))]
      exact hc)
    have hcon := AnyE.slices_DeleteFunc Tryz.del39 encStr (fun _ => rfl) (fun x => !preS p ⟨x.toArray⟩) 134 #[.pointer (some ⟨bx, 0, none⟩)] eg [] Tryz.zeroValue9 g 0 cap xs.toArray w hpred hover hH (by simp; omega) (by simp; omega)
    change Calls Tryz.prog 88 _ _ _ at hcon
    have ef : (xs.toArray.toList.filter fun x => !(!preS p ⟨x.toArray⟩)) = xs.filter fun k => preS p ⟨k.toArray⟩ := by simp
    have es : xs.toArray.size = n := by simpa using hn
    rw [ef, es] at hcon
    have hle : (xs.filter fun k => preS p ⟨k.toArray⟩).length ≤ n := by rw [← hn]; exact List.length_filter_le _ _
    generalize (xs.filter fun k => preS p ⟨k.toArray⟩) = F at hcon hle ⊢
    refine hcon.mono fun e w' ⟨he, q, hw⟩ => ⟨_, _, he, .inr ⟨g, rfl, fun i x hi => ?_⟩, ?_⟩
    · have hi' := (List.getElem?_eq_some_iff.1 hi).1
      have hD : (F ++ List.replicate (n - F.length) []).toArray.size = xs.toArray.size := by simp; omega
      have := Go.Sort.cell?_putRow encStr (Go.Sort.ahead w q) g 0 xs.toArray (F ++ List.replicate (n - F.length) []).toArray hH hD i (by rw [hD, es]; omega)
      rw [Nat.zero_add] at this
      rw [hw, this]
      have hx : (F ++ List.replicate (n - F.length) []).toArray[i]! = x := by
        rw [getElem!_pos _ i (by rw [hD, es]; omega)]
        simp only [List.getElem_toArray]
        rw [List.getElem_append_left hi']
        exact (List.getElem?_eq_some_iff.1 hi).2
      rw [hx]
    · have hgb : w.grownBy w' (some g) := by
        have := grownBy_sorted (w := w) (g := g) (n := q) (os := #[]) (F ++ List.replicate (n - F.length) []).toArray
        rw [Go.Sort.grow_empty] at this
        rw [hw]
        exact this
      exact ⟨hgb.os, hgb.tape, hgb.output, hgb.size, fun k hk => hgb.block k (by omega) (by simp; omega)⟩
theorem list_nil (p : ByteArray) (w : World) : Calls Tryz.prog 89 #[.pointer none, .string p] w fun e w' => e = .returned (.slice none 0 0) ∧ Below w.heap.size w w' := by
  go_enter Tryz.func89, Tryz.ntmps89
  go_wp2_with (go_at_call 54; refine (on_nil _).mono ?_; rintro e w2 ⟨rfl, rfl⟩)
  go_ret
  exact ⟨rfl, (Below.refl _ _).alloc (Nat.le_refl _) _⟩
set_option maxHeartbeats 1000000 in
set_option maxRecDepth 100000 in
theorem list_some (N : Lo) (d : Nat) (S : Dk) (hon : S.on = true) (p : ByteArray) (w : World) (h : DiskAt w N d S) :
    Calls Tryz.prog 89 #[.pointer (some ⟨d, 0, none⟩), .string p] w fun e w' => ∃ a c, e = .returned (.slice a (listK S p).length c) ∧ NamesIn w' a (listK S p) ∧ Below w.heap.size w w' := by
  have hmf : ∀ (fn : Fn) (first cap : Array Value) (w : World), (Instr.makeFunc fn first cap).run Tryz.prog w = .ok (.func fn first cap) w := fun _ _ _ _ => rfl
  have h1 : DiskAt (w.alloc (.cells #[.string p] 9)) N d S := h.alloc _
  have hlen : S.fs.length ≤ 256 := by
    obtain ⟨_, _, _, _, ho⟩ := h.open
    exact ho.fine.len
  have hOn : Hid (Calls Tryz.prog 54 #[.pointer (some ⟨d, 0, none⟩)] (w.alloc (.cells #[.string p] 9)) fun e w' => e = .returned (.bool true) ∧ w' = w.alloc (.cells #[.string p] 9)) := by
    have := on_some N d S _ h1
    rw [hon] at this
    exact this
  have hbx : Holds (w.alloc (.cells #[.string p] 9)) w.heap.size [.string p] 9 := holds_new w [.string p] 9
  have hNm : Hid (Calls Tryz.prog 67 #[.pointer (some ⟨d, 0, none⟩)] (w.alloc (.cells #[.string p] 9)) fun e w' => ∃ v, e = .returned v ∧ w'.ownsRow (w.heap.size + 1) 9 1 v S.fs.length ((S.fs.map Prod.fst).map encStr) ∧ Below (w.heap.size + 1) (w.alloc (.cells #[.string p] 9)) w') := by
    have := names_some N d S _ h1
    rw [World.size_alloc] at this
    exact this
  have hDl : Hid (∀ W v, W.ownsRow (w.heap.size + 1) 9 1 v S.fs.length ((S.fs.map Prod.fst).map encStr) → Below (w.heap.size + 1) (w.alloc (.cells #[.string p] 9)) W → Calls Tryz.prog 88 #[v, .func (.func 134) #[] #[.pointer (some ⟨w.heap.size, 0, none⟩)]] W fun e w' => ∃ a c, e = .returned (.slice a (listK S p).length c) ∧ NamesIn w' a (listK S p) ∧ Below (w.heap.size + 1) W w') := fun W v hW hb =>
    delete_row (w.heap.size + 1) S.fs.length v (S.fs.map Prod.fst) (by simp) p w.heap.size W hW ((hbx.below hb (by omega)).at 0 _ rfl) (by omega) hlen
  have hB : Hid (Below w.heap.size w (w.alloc (.cells #[.string p] 9))) := (Below.refl _ _).alloc (Nat.le_refl _) _
  generalize listK S p = F at *
  clear h h1 hbx hlen
  go_enter Tryz.func89, Tryz.ntmps89
  go_wp2_with (first
    | (go_at_call 54; refine hOn.out.mono ?_; rintro e w2 ⟨rfl, rfl⟩)
    | (go_at_call 67; refine hNm.out.mono ?_; rintro e w3 ⟨v3, rfl, r3, b3⟩)
    | (go_at_call 88; refine (hDl.out _ _ r3 b3).mono ?_; rintro e w4 ⟨a4, c4, rfl, n4, b4⟩))
  go_ret
  exact ⟨a4, c4, rfl, n4, (hB.out.trans (b3.mono (by omega))).trans (b4.mono (by omega))⟩
end Go.Proofs.YtfmmholkeadejaaGreatDoor
