/- What the document's own Owned answers. -/
import Derived.Test.YtlliijodilnlgaaRgEvW
namespace Go.Proofs.Ytlliijodilnlgaa
open Go.RowKit
set_option maxRecDepth 100000 in
set_option maxHeartbeats 1000000 in
theorem rowned_any (o : List Int) (ho : o.length = 8) (node : Int) (w : World) :
    Calls Try.prog 29 #[.agg (intV o).toArray, .int .i64 node] w fun e w' => ∃ v, e = .returned v ∧ w'.ownsRow w.heap.size 3 1 v (ownedL o node).length (intV (ownedL o node)) ∧ Below w.heap.size w w' := by
  obtain ⟨n, hn⟩ : ∃ n, w.heap.size = n := ⟨_, rfl⟩
  rw [hn]
  obtain ⟨i3, f3, hz3, hs3, hb3⟩ := inf3
  have F3 : Hid (Try.prog.info? 3 = some i3) := f3
  have HO : Hid (o.length = 8) := ho
  clear f3 ho
  go_enter Try.func29, Try.ntmps29
  go_wp2_with (first
    | (refine wpList_box_new 2 rfl rfl 23 _ rfl n hn _ rfl ?_; intro w1 h1))
  obtain ⟨h1o, h1s, h1h, h1b⟩ := h1
  have HB1 : Hid (Below n w w1) := h1b
  have HH : Hid (Holds w1 n (intV o) 23) := h1h
  clear h1h h1b h1o
  go_loopw [5, 6] (fun v c wr => ∃ k : Nat, k ≤ 8 ∧ c = .int .i64 (k : Int) ∧ wr.ownsRow (n + 1) 3 1 v (ownedTo o node k).length (intV (ownedTo o node k)) ∧ Below (n + 1) w1 wr) (fun _ c _ => 8 - (intOf c).toNat)
  case atStart => exact ⟨0, by omega, rfl, World.ownsRow_nil _ _ _ _, Below.refl _ _⟩
  case round =>
  obtain ⟨k, hk, rfl, hown, hB⟩ := hrel
  by_cases hlt : k < 8
  · have hcell : wr.cell? ⟨n, k, none⟩ = some (.int .i64 (o.getD k 0)) := (HH.out.below hB (by omega)).at k _ (intV_at o k (by rw [HO.out]; exact hlt))
    have hstep := ownedTo_succ o node k
    have hlen := ownedTo_len o node k
    generalize o.getD k 0 = x at hcell hstep
    generalize ownedTo o node k = L at hown hlen hstep
    obtain ⟨at_, ct, rfl⟩ := row_slice hown
    have i0 : (0 : Int) ≤ (k : Int) := by omega
    have i1 : (k : Int) < 8 := by omega
    have HOW : Hid (wr.ownsRow (n + 1) 3 1 (.slice at_ L.length ct) L.length (intV L)) := hown
    have HB : Hid (Below (n + 1) w1 wr) := hB
    have hsz : n + 1 ≤ wr.heap.size := by have := hB.size; omega
    clear hown hB
    by_cases hn0 : 0 < node
    · by_cases hxe : x = node
      · have hxb : (x == node) = true := by simpa using hxe
        have hst : Hid (ownedTo o node (k + 1) = L ++ [(k : Int)]) := by
          show _ = _
          rw [hstep, if_pos ⟨hxe, hn0⟩]
        have HNC : Hid (∀ (j : Nat) (u : Value), [Value.int .i64 (k : Int)][j]? = some u → (wr.alloc (.cells #[.int .i64 (k : Int)] 3)).cell? (Addr.add ⟨wr.heap.size, 0, none⟩ j) = some u) := fun j u hu => World.news_of_block (heap_alloc_new wr _) j u hu
        clear hstep hxe
        go_wp2_with (first
          | (at_builtin; refine wpList_append_src rfl (.tmp 20) (.tmp 22) 24 rfl (n + 1) 3 i3 _ 1 8 und24 F3.out hz3 hs3 hb3 (by rfl) (by omega) _ _ _ (HOW.out.alloc _) rfl [.int .i64 (k : Int)] _ 1 1 rfl (by rfl) (fun _ => ⟨_, rfl, fun j u hu => HNC.out j u hu⟩) (fun u hu => by simp at hu; subst hu; rfl) (by unfold maxLen; omega) (by omega) (by simp; omega) ?_; intro v3 w3 own3 gr3 _))
        have e3 : intV L ++ [.int .i64 (k : Int)] = intV (ownedTo o node (k + 1)) := by rw [hst.out]; simp [intV]
        have l3 : L.length + 1 = (ownedTo o node (k + 1)).length := by rw [hst.out]; simp
        rw [e3, l3] at own3
        exact ⟨⟨k + 1, by omega, by go_num, own3, (HB.out.trans ((Below.refl _ _).alloc hsz _)).grown gr3 (by simp; omega) (fun j e => own3_base HOW.out j e)⟩, by simp [intOf]; omega⟩
      · have hxb : (x == node) = false := by simpa using hxe
        have hst : Hid (ownedTo o node (k + 1) = L) := by
          show _ = _
          rw [hstep, if_neg (fun q => hxe q.1), List.append_nil]
        clear hstep
        go_wp2
        exact ⟨⟨k + 1, by omega, by go_num, by rw [hst.out]; exact HOW.out, HB.out⟩, by simp [intOf]; omega⟩
    · have hst : Hid (ownedTo o node (k + 1) = L) := by
        show _ = _
        rw [hstep, if_neg (fun q => hn0 q.2), List.append_nil]
      clear hstep
      go_wp2
      exact ⟨⟨k + 1, by omega, by go_num, by rw [hst.out]; exact HOW.out, HB.out⟩, by simp [intOf]; omega⟩
  · have e8 : k = 8 := by omega
    subst e8
    have HLe : Hid (ownedTo o node 8 = ownedL o node) := rfl
    rw [HLe.out] at hown
    generalize hL : ownedL o node = L at hown
    have HL : Hid (ownedL o node = L) := hL
    obtain ⟨at_, ct, rfl⟩ := row_slice hown
    have HOW : Hid (wr.ownsRow (n + 1) 3 1 (.slice at_ L.length ct) L.length (intV L)) := hown
    have HB : Hid (Below (n + 1) w1 wr) := hB
    clear hown hB hlt hL
    go_wp2
    go_ret
    rw [HL.out]
    exact ⟨_, rfl, row_base HOW.out (by omega), HB1.out.trans (HB.out.mono (by omega))⟩
theorem ownedL_len (o : List Int) (node : Int) : (ownedL o node).length ≤ 8 := ownedTo_len o node 8
end Go.Proofs.Ytlliijodilnlgaa
