/- Set (13) and Cancel (9). -/
import Derived.Test.YtklkonmdllgeeaaWhMem
namespace Go.Proofs.Ytklkonmdllgeeaa
open Go.RowKit Go.Maps

theorem set_nil (at_ : Int) (v : Value) (w : World) : Calls Try.prog 13 #[.pointer none, .int .i64 at_, v] w fun e w' => e = .returned (.tuple #[]) ∧ w' = w := by
  go_enter Try.func13, Try.ntmps13
  go_wp2
  refine bodyPost_ret (results_none rfl _ _ _) rfl ?_
  exact ⟨rfl, rfl⟩
theorem cancel_nil (v : Value) (w : World) : Calls Try.prog 9 #[.pointer none, v] w fun e w' => e = .returned (.int .i64 0) ∧ w' = w := by
  go_enter Try.func9, Try.ntmps9
  go_wp2
  go_ret
  exact ⟨rfl, rfl⟩
/-- The wheel with a map, behind a map's turn. -/
theorem WheelAt.turn {N : Nat} {w w' : World} {b mb : Nat} {t : Nat} (hb : N ≤ b) (hmb : N ≤ mb) (hH : Holds w b [.map (some mb), .int .u64 (t : Int)] 50) (hne : b ≠ mb) (hu : Upd mb w w') (m : Ts) (hf : Fine m t) (hn : ∀ x ∈ m, x.1.length ≤ maxLen) (hT : TmsAt w' mb m) : WheelAt N w' b m t :=
  ⟨hb, hf, hn, _, (show Holds w' b _ 50 by unfold Holds at *; rw [hu.block b (Array.getElem?_eq_some_iff.1 hH).1 hne]; exact hH), .inr ⟨mb, rfl, hmb, hT⟩⟩
theorem map_ne {w : World} {b mb : Nat} {cs : List Value} {t : TypeId} {l : Ts} (hH : Holds w b cs t) (hT : TmsAt w mb l) : b ≠ mb := fun e => by
  obtain ⟨es, c, h⟩ := hT.isMap
  unfold Holds at hH
  rw [e, h] at hH; cases hH
theorem wupd_map {N b mb : Nat} {w w' : World} {l : Ts} (hmb : N ≤ mb) (hT : TmsAt w mb l) (hu : Upd mb w w') : WUpd N b w w' :=
  ⟨hu.os, hu.tape, hu.output, hu.size, fun g hg => hu.block g (by have := hT.lt; omega) (by omega), fun g cs t fr _ hg => hu.block g (Array.getElem?_eq_some_iff.1 hg).1 (fun e => by
    obtain ⟨es, c, h⟩ := hT.isMap
    rw [e, h] at hg; cases hg)⟩
theorem dropAll_snoc (ks : List (List UInt8)) (k : List UInt8) (l : Ts) : dropAll (ks ++ [k]) l = dropT k (dropAll ks l) := by
  induction ks generalizing l with
  | nil => rfl
  | cons j ks ih => exact ih _
theorem take_snoc {α : Type} (ks : List α) (i : Nat) (h : i < ks.length) : ks.take (i + 1) = ks.take i ++ [ks[i]] := by
  rw [List.take_add_one, List.getElem?_eq_getElem h]; rfl
theorem setAll_snoc (a : Int) (ks : List (List UInt8)) (k : List UInt8) (l : Ts) (t : Nat) : setAll a (ks ++ [k]) l t = setT k a (t + ks.length + 1) (setAll a ks l t) := by
  induction ks generalizing l t with
  | nil => rfl
  | cons j ks ih =>
    rw [List.cons_append, setAll, ih, setAll, List.length_cons]
    congr 1; omega
theorem WheelAt.load {N : Nat} {w : World} {b : Nat} {l : Ts} {t : Nat} (h : WheelAt N w b l t) : ∃ mv, w.cell? ⟨b, 0, none⟩ = some mv ∧ ∀ ty, (Builtin.len_ #[47] ty #[mv]).run Try.prog w = .ok (.int .i64 (l.length : Int)) w := by
  obtain ⟨h1, h2, h3, mv, hH, ⟨rfl, rfl⟩ | ⟨mb, rfl, hmb, hT⟩⟩ := h
  · exact ⟨_, hH.at 0 _ rfl, fun ty => len_none ty⟩
  · exact ⟨_, hH.at 0 _ rfl, fun ty => hT.len h2.nodup ty⟩
theorem WheelAt.delete {N : Nat} {w : World} {b : Nat} {l : Ts} {t : Nat} (h : WheelAt N w b l t) (k : List UInt8) (hk : k.length ≤ maxLen) (ty : TypeId) : ∃ mv w1, w.cell? ⟨b, 0, none⟩ = some mv ∧ (Builtin.delete_ #[47, 9] ty #[mv, .string (strL k)]).run Try.prog w = .ok (.tuple #[]) w1 ∧ WheelAt N w1 b (dropT k l) t ∧ WUpd N b w w1 := by
  have h0 := h
  obtain ⟨h1, h2, h3, mv, hH, ⟨rfl, rfl⟩ | ⟨mb, rfl, hmb, hT⟩⟩ := h
  · exact ⟨_, w, hH.at 0 _ rfl, drop_none k hk ty, h0, WUpd.refl _ _ _⟩
  · obtain ⟨w1, hr, hT1, hu⟩ := hT.drop k hk ty
    exact ⟨_, w1, hH.at 0 _ rfl, hr, WheelAt.turn h1 hmb hH (map_ne hH hT) hu _ (h2.drop k) (fun x hx => h3 x (mem_dropT.1 hx).1) hT1, wupd_map hmb hT hu⟩
set_option maxRecDepth 100000 in
set_option maxHeartbeats 1000000 in
theorem cancel_any (N b : Nat) (l : Ts) (t : Nat) (v : Value) (ks : List (List UInt8)) (hk : ∀ k ∈ ks, k.length ≤ maxLen) (hl : ks.length ≤ maxLen) (hlt : t < 4611686018427387904) (w : World) (h : WheelAt N w b l t) (hs : Strs b w v ks) :
    Calls Try.prog 9 #[.pointer (some ⟨b, 0, none⟩), v] w fun e w' => e = .returned (.int .i64 ((l.length : Int) - ((dropAll ks l).length : Int))) ∧ WheelAt N w' b (dropAll ks l) t ∧ WUpd N b w w' := by
  have hll := h.fine.len
  have hdl := (dropAll_sub ks l).length_le
  have hlm : (ks.length : Int) ≤ 9223372036854775807 := by unfold maxLen at hl; omega
  obtain ⟨a, cap, rfl⟩ := hs.len
  obtain ⟨mv, c0, hln⟩ := h.load
  have hW0 : Hid (WheelAt N w b l t) := h
  have hS0 : Hid (Strs b w (.slice a ks.length cap) ks) := hs
  clear h hs
  generalize hn : ks.length = n at *
  go_enter Try.func9, Try.ntmps9
  go_wp2
  go_loopw [17] (fun c wr => ∃ i : Nat, c = .int .i64 (i : Int) ∧ i ≤ n ∧ Hid (WheelAt N wr b (dropAll (ks.take i) l) t ∧ WUpd N b w wr)) (fun c _ => n - (intOf c).toNat)
  case atStart => exact ⟨0, rfl, Nat.zero_le _, hW0.out, WUpd.refl _ _ _⟩
  case round =>
    clear c0 hln
    obtain ⟨i, rfl, hi, hR⟩ := hrel
    by_cases hlt : i < n
    · obtain ⟨g, o, rfl, hc⟩ := (hS0.out.wupd hR.out.2).cell i (ks[i]'(by omega)) (List.getElem?_eq_getElem (by omega))
      obtain ⟨mv, w1, c0, hdn, hW1⟩ := hR.out.1.delete (ks[i]'(by omega)) (hk _ (List.getElem_mem (by omega))) 0
      have hW2 : Hid (WheelAt N w1 b (dropAll (ks.take (i + 1)) l) t ∧ WUpd N b w w1) := by
        rw [take_snoc ks i (by omega), dropAll_snoc]
        exact ⟨hW1.1, hR.out.2.trans hW1.2⟩
      generalize ks[i]'(by omega) = k at *
      clear hR hW1
      go_wp2
      exact ⟨⟨i + 1, by simp, by omega, hW2⟩, by simp [intOf]; omega⟩
    · obtain ⟨mv, c0, hln⟩ := hR.out.1.load
      obtain rfl : i = n := by omega
      subst hn
      rw [List.take_length] at hR hln
      go_wp2
      go_ret
      exact ⟨rfl, hR.out.1, hR.out.2⟩
end Go.Proofs.Ytklkonmdllgeeaa
