/- What package tree's leaf.hash answers: the sum of what a Writer laid down of its keys. -/
import Derived.Test.YtbfadapffpijpaaDoorTrRise
import Derived.Test.YtbfadapffpijpaaDoorPkCheck
import Derived.Deep.RegionWith
namespace Go.Proofs.YtbfadapffpijpaaDoor
open Go.RowKit Go.Maps Go.WideMaps
open Pk (Wr WUpd textL rawL wtexts_any wraws_any bytes_some Keep)

theorem row46 : (Tryd.prog.underlying 46).map TypeDesc.isRow = some true := by kernel_rfl
theorem und46 : ∃ d, Tryd.prog.underlying 46 = some d ∧ d.isRow = true := by
  have := row46
  cases h : Tryd.prog.underlying 46 with
  | none => simp [h] at this
  | some d => exact ⟨d, rfl, by simpa [h] using this⟩
theorem siz46 : (Tryd.prog.info? 46).map (·.size) = some 33 := by kernel_rfl
theorem zeroV46 (w : World) : (zeroValue 46).run Tryd.prog w = .ok (.agg (.string ⟨#[]⟩ :: zero32.map byteV).toArray) w := by kernel_rfl
theorem built89 : Tryd.prog.built 89 [] = some #[.slice none 0 0] := by kernel_rfl
theorem built26 : Tryd.prog.built 26 [] = some (zero32.map byteV).toArray := by kernel_rfl
theorem wr_new {w w' : World} {n : Nat} (h : Anew n w w' [.slice none 0 0] 89) : Wr w' n [] := ⟨_, h.holds, World.ownsRow_nil _ _ _ _⟩
theorem Pk.WUpd.drew {B : Nat} {x y : World} (h : WUpd B x y) : WUpd B x y.drew := ⟨h.os, h.tape, h.output, h.size, h.low, h.other⟩
theorem Pk.Wr.drew {B : Nat} {x : World} {bs : List UInt8} (h : Wr x B bs) : Wr x.drew B bs := h.below ⟨rfl, rfl, rfl, Nat.le_refl _, fun _ _ => rfl⟩
theorem keep_of {W : World} {L B : Nat} {cs ds : List Value} {t u : TypeId} (h : Holds W L cs t) (hB : Holds W B ds u) (ht : t ≠ 5) (hu : t ≠ u) : Keep W L B :=
  ⟨h.lt, .inr ⟨fun e => hu (by subst e; exact (h.inj hB).2), h.notByte ht⟩⟩
theorem text_one (B : Nat) (bs : List UInt8) (key : ByteArray) (hl : bs.length + (textL key).length + 10 ≤ 140737488355328) (X : World) (hX : Wr X B bs) (W : World) (L cap : Nat) (hW : Below X.heap.size X W) (hL : Holds W L [.string key] 9) :
    Calls Tryd.prog 47 #[.pointer (some ⟨B, 0, none⟩), .slice (some ⟨L, 0, none⟩) 1 cap] W fun e w' => e = .returned (.pointer (some ⟨B, 0, none⟩)) ∧ Wr w' B (bs ++ textL key) ∧ WUpd B W w' ∧ WUpd B X w' := by
  have hXW := hX.below hW
  obtain ⟨v, hv, _⟩ := id hXW
  have := wtexts_any B bs [key] (fun _ _ => trivial) L 0 cap W hXW (keep_of hL hv (by decide) (by decide)) (fun i x hi => by
    cases i with
    | zero => simp at hi; subst hi; exact hL.at 0 _ rfl
    | succ i => simp at hi) (by simpa using hl) (by simp)
  refine this.mono ?_
  rintro e w' ⟨e1, e2, e3⟩
  exact ⟨e1, by simpa using e2, e3, (WUpd.ofBelow (Nat.le_of_lt hX.lt) hW).trans e3⟩
theorem raw_one (B : Nat) (bs : List UInt8) (key : ByteArray) (hl : bs.length + key.size + 10 ≤ 140737488355328) (X Y : World) (hY : Wr Y B bs) (hXY : WUpd B X Y) (W : World) (L cap : Nat) (hW : Below Y.heap.size Y W) (hL : Holds W L [.string key] 9) :
    Calls Tryd.prog 48 #[.pointer (some ⟨B, 0, none⟩), .slice (some ⟨L, 0, none⟩) 1 cap] W fun e w' => e = .returned (.pointer (some ⟨B, 0, none⟩)) ∧ Wr w' B (bs ++ key.data.toList) ∧ WUpd B X w' := by
  have hYW := hY.below hW
  obtain ⟨v, hv, _⟩ := id hYW
  have := wraws_any B bs [key] (fun _ _ => trivial) L 0 cap W hYW (keep_of hL hv (by decide) (by decide)) (fun i x hi => by
    cases i with
    | zero => simp at hi; subst hi; exact hL.at 0 _ rfl
    | succ i => simp at hi) (by simpa [rawL] using hl) (by simp)
  refine this.mono ?_
  rintro e w' ⟨e1, e2, e3⟩
  exact ⟨e1, by simpa [rawL] using e2, hXY.trans ((WUpd.ofBelow (Nat.le_of_lt hY.lt) hW).trans e3)⟩
/-- Of no keys: 32 zero bytes. -/
theorem hash_none (v : Value) (w : World) (h : MapIs w v []) : Calls Tryd.prog 35 #[v] w fun e w' => e = .returned (.agg ((leafH []).map byteV).toArray) ∧ Below w.heap.size w w' := by
  obtain ⟨n, hn⟩ : ∃ n, w.heap.size = n := ⟨_, rfl⟩
  have hB1 : Hid (∀ W, Below w.heap.size w W → ∀ ty, (Builtin.len_ #[24] ty #[v]).run Tryd.prog W = .ok (.int .i64 0) W) := fun W hW ty => by
    have h1 : MapIs W v [] := h.same (fun x e => hW.block x (by
      rcases h with ⟨e2, _⟩ | ⟨mb, e2, hk⟩
      · rw [e2] at e; cases e
      · rw [e2] at e; cases e; exact hk.lt))
    exact h1.len List.Pairwise.nil ty
  rw [hn] at hB1 ⊢
  clear h
  go_enter Tryd.func35, Tryd.ntmps35
  go_wp2_with (first
    | (refine wpList_alloc_new 2 rfl rfl 26 rfl n hn _ (zero_of_info info26).1 ?_; intro w1 h1; have hl1 := hB1.out w1 h1.below)
    | (refine wpList_build_none rfl 26 rfl (zero32.map byteV).toArray built26 ?_)
    | (refine wpList_store_all rfl 26 (.tmp 2) (.tmp 9) rfl n rfl (zero32.map byteV) rfl 26 _ h1.holds (by rw [(zero_of_info info26).2]; rfl) (by rfl) (byteV_one _) ?_; intro w2 h2))
  exact bodyPost_ret (results_cell_row (p := 2) (by kernel_rfl) _ w2 n 26 (zero32.map byteV).toArray (0, 0) _ rfl h2.holds und26 rfl (by rw [(zero_of_info info26).2]; rfl)) rfl ⟨rfl, h1.below.trans (h2.below (Nat.le_refl _))⟩
end Go.Proofs.YtbfadapffpijpaaDoor
