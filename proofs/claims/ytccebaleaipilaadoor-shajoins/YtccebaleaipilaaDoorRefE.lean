/- What the document's own Text answers: the digits of a sum. -/
import Derived.Test.YtccebaleaipilaaDoorText
import Derived.Test.YtccebaleaipilaaDoorRefC
import Derived.Deep.RegionLaw
namespace Go.Proofs.YtccebaleaipilaaDoor
open Go.RowKit

/-- The text of the sixteen digits. -/
def digB : ByteArray := ⟨#[48, 49, 50, 51, 52, 53, 54, 55, 56, 57, 97, 98, 99, 100, 101, 102]⟩
theorem dig_some (m : Nat) (h : m < 16) : digB[m]? = some (dig m) := by
  have h' : m < digB.size := h
  rw [getElem?_pos digB m h']
  exact congrArg some (dig_get m h)
theorem run_digit (w : World) (m : Nat) (h : m < 16) : (Instr.index 9 (.string digB) (.int .u8 (m : Int))).run Tryd.prog w = .ok (.int .u8 ((dig m).toNat : Int)) w := by
  have h0 : (0 : Int) ≤ (m : Int) := by omega
  simp only [Instr.index, asIntOf, Sem.run_bind, Sem.run_pure, Result.andThen_ok, run_underlying und9 w, if_pos h0, Int.toNat_natCast, dig_some m h]
/-- The digit that v has at i. -/
def digitOf (v i : Value) : Option UInt8 := match v, i with
  | .string s, .int .u8 m => if s = digB ∧ 0 ≤ m ∧ m < 16 then some (dig m.toNat) else none
  | _, _ => none
theorem run_digitOf (w : World) (v i : Value) (d : UInt8) (h : digitOf v i = some d) : (Instr.index 9 v i).run Tryd.prog w = .ok (.int .u8 (d.toNat : Int)) w := by
  unfold digitOf at h
  split at h
  · rename_i s m
    split at h
    · rename_i hc
      obtain ⟨rfl, h0, h1⟩ := hc
      obtain ⟨k, rfl⟩ := Int.eq_ofNat_of_zero_le h0
      cases h
      exact run_digit w k (by omega)
    · cases h
  · cases h
def IsIx (o : Oper) : Prop := ∃ x y, o.op = .index 9 x y
def ixX (o : Oper) : Operand := match o.op with | .index _ x _ => x | _ => .tmp 0
def ixY (o : Oper) : Operand := match o.op with | .index _ _ y => y | _ => .tmp 0
theorem isIx_mk (dst : Option Tmp) (x y : Operand) (t : TypeId) (pos : String) (af : Array Edge) (gd : Option (Nat × Bool)) : IsIx { dst := dst, op := .index 9 x y, type := t, pos := pos, after := af, guard := gd } = True := eq_true ⟨x, y, rfl⟩
theorem ixX_mk (dst : Option Tmp) (x y : Operand) (t : TypeId) (pos : String) (af : Array Edge) (gd : Option (Nat × Bool)) : ixX { dst := dst, op := .index 9 x y, type := t, pos := pos, after := af, guard := gd } = x := rfl
theorem ixY_mk (dst : Option Tmp) (x y : Operand) (t : TypeId) (pos : String) (af : Array Edge) (gd : Option (Nat × Bool)) : ixY { dst := dst, op := .index 9 x y, type := t, pos := pos, after := af, guard := gd } = y := rfl
theorem rule_ix (o : Oper) (a : Act) (w : World) (K : Act → World → Prop) (Q : Exit → Act → World → Prop) (ho : IsIx o) (h : (digitOf (a.eval (ixX o)) (a.eval (ixY o))).isSome = true) :
    Oper.wp Tryd.prog o a w K Q = K (a.put o.dst (.int .u8 (((digitOf (a.eval (ixX o)) (a.eval (ixY o))).getD 0).toNat : Int))) w := by
  obtain ⟨dst, op, t, pos, af, gd⟩ := o
  obtain ⟨x, y, hx⟩ := ho
  dsimp only at hx
  subst hx
  obtain ⟨d, hd⟩ := Option.isSome_iff_exists.1 h
  have hr := run_digitOf w _ _ d hd
  change Oper.upon _ _ _ _ _ _ = _
  rw [hd]
  unfold execOp
  have e : ixX { dst := dst, op := .index 9 x y, type := t, pos := pos, after := af, guard := gd } = x := rfl
  have e2 : ixY { dst := dst, op := .index 9 x y, type := t, pos := pos, after := af, guard := gd } = y := rfl
  rw [e, e2] at hr
  simp only [Sem.run_bind, hr, Result.andThen_ok, Option.getD_some]
  rfl

/-- The digits of the first j bytes. -/
def tdig (sum : List UInt8) : Nat → List UInt8
  | 0 => []
  | j + 1 => tdig sum j ++ [dig ((sum.getD j 0).toNat / 16), dig ((sum.getD j 0).toNat % 16)]
theorem tdig_length (sum : List UInt8) : ∀ j, (tdig sum j).length = 2 * j
  | 0 => rfl
  | j + 1 => by rw [tdig, List.length_append, tdig_length sum j]; simp; omega
theorem tx_tdig (sum : List UInt8) : ∀ j, j ≤ 32 → tx sum j = tdig sum j ++ List.replicate (64 - 2 * j) 0
  | 0, _ => rfl
  | j + 1, h => by
    have hl := tdig_length sum j
    have e : 64 - 2 * j = (64 - 2 * (j + 1)) + 1 + 1 := by omega
    rw [tx, tdig, tx_tdig sum j (by omega), e, List.replicate_succ, List.replicate_succ]
    rw [List.set_append_right _ _ (by omega), hl, Nat.sub_self, List.set_cons_zero, List.set_append_right _ _ (by omega), hl, show 2 * j + 1 - 2 * j = 1 by omega, List.set_cons_succ, List.set_cons_zero]
    simp
theorem text_tdig (sum : List UInt8) : strOfNums ((tdig sum 32).map fun c => (c.toNat : Int)) = textL sum := by
  rw [← text_str, tx_tdig sum 32 (by omega)]
  simp

attribute [local go_sem ↓] rule_ix
attribute [local go_sem] isIx_mk ixX_mk ixY_mk
set_option maxHeartbeats 4000000 in
set_option maxRecDepth 100000 in
theorem rtext_any (sum : List UInt8) (hs : sum.length = 32) (w : World) :
    Calls Tryd.prog 11 #[.agg (sum.map byteV).toArray] w fun e w' => e = .returned (.string (textL sum)) ∧ Below w.heap.size w w' := by
  obtain ⟨n, hn⟩ : ∃ n, w.heap.size = n := ⟨_, rfl⟩
  rw [hn]
  obtain ⟨i5, hi5, hz5, hs5, hb5⟩ := inf5
  have F5 : Hid (Tryd.prog.info? 5 = some i5) := hi5
  clear hi5
  go_enter Tryd.func11, Tryd.ntmps11
  go_wp2_with (refine wpList_box_new 1 rfl rfl 23 _ rfl n hn _ rfl ?_; intro w1 h1)
  have z1 := h1.size
  have hS1 := h1.holds
  have b1 := h1.below
  clear h1
  go_loopw [4, 5] (fun v c wr => ∃ j : Nat, j ≤ 32 ∧ c = .int .i64 (j : Int) ∧ wr.ownsRow (n + 1) 5 1 v (2 * j) ((tdig sum j).map byteV) ∧ Holds wr n (sum.map byteV) 23 ∧ Below n w wr) (fun _ c _ => 32 - (intOf c).toNat)
  case atStart => exact ⟨0, by omega, rfl, ⟨rfl, .inl ⟨rfl, rfl⟩⟩, hS1, b1⟩
  case round =>
    clear hS1 b1 z1
    obtain ⟨j, hj, rfl, hown, hS, hb⟩ := hrel
    by_cases hlt : j < 32
    · obtain ⟨x, X⟩ : ∃ x, Hid (sum.getD j 0 = x) := ⟨_, rfl⟩
      have cx : wr.cell? ⟨n, j, none⟩ = some (.int .u8 (x.toNat : Int)) := by
        rw [← X.out]; exact hS.at j _ (by rw [List.getElem?_map, List.getElem?_eq_getElem (by omega)]; simp [hs, hlt]; rfl)
      have hx : x.toNat < 256 := x.toNat_lt
      have i0 : (0 : Int) ≤ (j : Int) := by omega
      have i1 : (j : Int) < 32 := by omega
      have d1 : digitOf (.string ⟨#[48, 49, 50, 51, 52, 53, 54, 55, 56, 57, 97, 98, 99, 100, 101, 102]⟩) (.int .u8 ((x.toNat : Int) / 16)) = some (dig (x.toNat / 16)) := by
        show (if _ then _ else _) = _
        rw [if_pos ⟨rfl, by omega, by omega⟩, show ((x.toNat : Int) / 16).toNat = x.toNat / 16 by omega]
      have d2 : digitOf (.string ⟨#[48, 49, 50, 51, 52, 53, 54, 55, 56, 57, 97, 98, 99, 100, 101, 102]⟩) (.int .u8 ((x.toNat : Int) % 16)) = some (dig (x.toNat % 16)) := by
        show (if _ then _ else _) = _
        rw [if_pos ⟨rfl, by omega, by omega⟩, show ((x.toNat : Int) % 16).toNat = x.toNat % 16 by omega]
      have z1 : IntKind.u8.wrap ((x.toNat : Int) / 16) = (x.toNat : Int) / 16 := by simp [IntKind.wrap, IntKind.bits, IntKind.signed]; omega
      have z2 : (x.toNat : Int).tmod 16 = (x.toNat : Int) % 16 := Int.tmod_eq_emod_of_nonneg (by omega)
      have hn1 : n + 1 ≤ (wr.alloc (.cells #[.int .u8 ((dig (x.toNat / 16)).toNat : Int), .int .u8 ((dig (x.toNat % 16)).toNat : Int)] 5)).heap.size := by have := hS.lt; simp; omega
      have HN : Hid (∀ (k : Nat) (u : Value), [Value.int .u8 ((dig (x.toNat / 16)).toNat : Int), Value.int .u8 ((dig (x.toNat % 16)).toNat : Int)][k]? = some u → (wr.alloc (.cells #[.int .u8 ((dig (x.toNat / 16)).toNat : Int), .int .u8 ((dig (x.toNat % 16)).toNat : Int)] 5)).drew.cell? ((⟨wr.heap.size, 0, none⟩ : Addr).add k) = some u) := World.news_of_block (heap_alloc_new wr _)
      have HO : Hid ((wr.alloc (.cells #[.int .u8 ((dig (x.toNat / 16)).toNat : Int), .int .u8 ((dig (x.toNat % 16)).toNat : Int)] 5)).drew.ownsRow (n + 1) 5 1 u4 (2 * j) ((tdig sum j).map byteV)) := hown.alloc _
      have H1 : Hid (∀ u ∈ [Value.int .u8 ((dig (x.toNat / 16)).toNat : Int), Value.int .u8 ((dig (x.toNat % 16)).toNat : Int)], u.oneCell' = true) := by
        intro u hu
        simp at hu
        rcases hu with rfl | rfl <;> rfl
      go_wp2_with fail
      go_region_law (refine step_append_lies _ rfl (.tmp 10) (.tmp 23) 50 rfl (n + 1) 5 i5 (.int .u8 0) 1 1 und50 F5.out hz5 hs5 hb5 rfl (by omega) u4 (2 * j) ((tdig sum j).map byteV) (by simp [Act.eval]) HO.out ⟨wr.heap.size, 0, none⟩ 2 2 [.int .u8 ((dig (x.toNat / 16)).toNat : Int), .int .u8 ((dig (x.toNat % 16)).toNat : Int)] (by simp [Act.eval]) rfl HN.out H1.out (by omega) (by unfold maxLen; omega) (by omega) hn1 (wr.heap.size + 1) (by simp) ?_; intro g cap w2 hown2 hgrow hat hlt2)
      all_goals
        go_wp2_with fail
        have bg : Below (n + 1) wr w2 := below_grown (((Below.refl (n + 1) wr).alloc (by have := hS.lt; omega) _).drew) hgrow hn1 HO.out
        refine ⟨⟨j + 1, by omega, by go_num, ?_, hS.below bg (by omega), hb.trans (bg.mono (by omega))⟩, by simp [intOf]; omega⟩
        rw [tdig, X.out, List.map_append, show 2 * (j + 1) = 2 * j + 2 by omega]
        exact hown2
    · have hj8 : j = 32 := by omega
      subst hj8
      obtain ⟨h8, hcase⟩ := hown
      rcases hcase with ⟨_, h0⟩ | ⟨g, cap, cur, rfl, hg, hcur, hcap, hcm, hcz, htk⟩
      · omega
      have hcv : (convert 50 9 (.slice (some ⟨g, 0, none⟩) 64 cap)).run Tryd.prog wr = .ok (.string (textL sum)) wr := by
        have := run_convert_bytes_arg (P := Tryd.prog) wr 50 5 und50 und5 g 0 64 cap ((tdig sum 32).map fun c => (c.toNat : Int)) (by simp [tdig_length]) (fun i hi => by
          have hl : i < (tdig sum 32).length := by rw [tdig_length]; omega
          rw [Nat.zero_add, cell_of_row wr g i cur 5 (0, 0) hcur]
          have h3 : (cur.toList.take (2 * 32 * 1))[i]? = ((tdig sum 32).map byteV)[i]? := by rw [htk]
          rw [List.getElem?_take_of_lt (by omega), Array.getElem?_toList] at h3
          rw [h3]
          simp [hl]; rfl) 9 und9r
        rw [text_tdig] at this
        exact this
      have hcv2 : (convert 50 9 (.slice (some ⟨g, 0, none⟩) (2 * 32) cap)).run Tryd.prog wr = .ok (.string (textL sum)) wr := hcv
      clear htk h8
      go_wp2
      go_ret
      exact ⟨rfl, hb⟩
end Go.Proofs.YtccebaleaipilaaDoor
