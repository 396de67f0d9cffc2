/- NetOnce in memory: a net, the list of what was sent, the counts. -/
import Derived.Test.YtmdoamkockoipaaNtOnP
import Derived.Test.YtmdoamkockoipaaNtOpen2
namespace Go.Proofs.Ytmdoamkockoipaa
open Go.RowKit Go.Maps

def gtV (gt : List Int) : List Value := gt.map fun x => Value.int .i64 x
def OnG (N gb : Nat) (vs : Value) (X : Nat → Prop) (k : Nat) : Prop := k < N ∨ k = gb ∨ vs.ownBlock = some k ∨ X k
structure OnM (N : Nat) (w0 : World) (b gb : Nat) (X : Nat → Prop) (s : Nt) (snt : List Mg) (gt : List Int) (vs : Value) (W : World) : Prop where
  nin : NIn (OnG N gb vs X) N w0 b s W
  row : W.ownsRow N 34 4 vs snt.length (mgF snt)
  got : Holds W gb (gtV gt) 3
  low : N ≤ gb
  ne : vs.ownBlock ≠ some gb
section
variable {N : Nat} {w0 : World} {b gb : Nat} {X : Nat → Prop} {s s' : Nt} {snt : List Mg} {gt : List Int} {vs : Value} {W w' : World}
theorem OnM.call (h : OnM N w0 b gb X s snt gt vs W) (hn : NIn (OnG N gb vs X) N w0 b s' w') (hk : Keeps (OnG N gb vs X) W w') : OnM N w0 b gb X s' snt gt vs w' :=
  ⟨hn, owns_same h.row fun g hg => hk.block g (.inr (.inr (.inl hg))), h.got.keeps hk (.inr (.inl rfl)), h.low, h.ne⟩
theorem OnM.below (h : OnM N w0 b gb X s snt gt vs W) (hb : Below W.heap.size W w') : OnM N w0 b gb X s snt gt vs w' := h.call (h.nin.ofBelow hb) (Keeps.ofBelow hb h.nin.net.low)
theorem OnM.alloc (h : OnM N w0 b gb X s snt gt vs W) (o : Obj) : OnM N w0 b gb X s snt gt vs (W.alloc o) := h.below ((Below.refl _ _).alloc (Nat.le_refl _) o)
/-- A box is guarded, too. -/
theorem OnM.box (h : OnM N w0 b gb X s snt gt vs W) (o : Obj) : OnM N w0 b gb (fun k => X k ∨ k = W.heap.size) s snt gt vs (W.alloc o) := by
  have ha := h.alloc o
  have hg := h.nin.guard o
  refine ⟨hg.less (fun k hk => ?_) (fun _ hk => .inl hk), ha.row, ha.got, h.low, h.ne⟩
  rcases hk with q | q | q | q | q
  · exact .inl (.inl q)
  · exact .inl (.inr (.inl q))
  · exact .inl (.inr (.inr (.inl q)))
  · exact .inl (.inr (.inr (.inr q)))
  · exact .inr q
theorem OnM.less {X' : Nat → Prop} (h : OnM N w0 b gb X s snt gt vs W) (hX : ∀ k, X' k → X k) : OnM N w0 b gb X' s snt gt vs W :=
  ⟨h.nin.less (fun k hk => hk.imp id (fun q => q.imp id (fun q => q.imp id (hX k)))) (fun _ hk => .inl hk), h.row, h.got, h.low, h.ne⟩
/-- The list of what was sent grows. -/
theorem OnM.push (h : OnM N w0 b gb X s snt gt vs W) (m : Mg) {v' : Value} (hown : w'.ownsRow N 34 4 v' (snt.length + 1) (mgF snt ++ mgV m)) (hg : W.grownBy w' vs.ownBlock) (hloc : v'.ownBlock = vs.ownBlock ∨ v'.ownBlock = some W.heap.size) : OnM N w0 b gb X s (snt ++ [m]) gt v' w' := by
  have hgbl := h.got.lt
  have hk : NetAt (OnG N gb vs X) w' b s := h.nin.net.keep hg.size fun k hk hn => hg.block k hk fun e => hn (.inr (.inr (.inl e.symm)))
  have hgot : Holds w' gb (gtV gt) 3 := by
    have := h.got
    unfold Holds at *
    rw [hg.block gb hgbl (fun e => h.ne e.symm)]; exact this
  have hbel : Below N w0 w' := h.nin.below.trans (below_grown h.row hg (Nat.le_refl _) h.nin.size)
  have hv'lt : ∀ k, v'.ownBlock = some k → k < w'.heap.size := fun k hk => owns_lt hown hk
  refine ⟨⟨?_, hbel, fun _ hk => .inl hk⟩, ?_, hgot, h.low, ?_⟩
  · -- the guard: of the new list
    obtain ⟨l1, l2, l3, v, mv, hH, hR, hgv, hC⟩ := hk
    have hX : ∀ k, OnG N gb v' X k → OnG N gb vs X k ∨ k = W.heap.size := fun k q => by
      rcases q with q | q | q | q
      · exact .inl (.inl q)
      · exact .inl (.inr (.inl q))
      · rcases hloc with e | e
        · exact .inl (.inr (.inr (.inl (e ▸ q))))
        · exact .inr (Option.some.inj (q.symm.trans e))
      · exact .inl (.inr (.inr (.inr q)))
    have hbl := h.nin.net.lt
    obtain ⟨_, _, _, v0, mv0, hH0, hR0, _, hC0⟩ := h.nin.net
    have hHs : Holds w' b [v0, .int .i64 (s.last : Int), mv0] 46 := by
      have := hH0
      unfold Holds at *
      rw [hg.block b hbl (fun e => l2 (.inr (.inr (.inl e.symm))))]; exact this
    obtain ⟨e1, _⟩ := hHs.inj hH
    simp only [List.cons.injEq, true_and, and_true] at e1
    obtain ⟨rfl, rfl⟩ := e1
    refine ⟨fun k q => ?_, fun q => ?_, l3, v0, mv0, hH, hR, fun g q => ⟨fun p => ?_, (hgv g q).2⟩, ?_⟩
    · rcases hX k q with q | q
      · exact l1 k q
      · rcases hloc with e | e
        · have hs := hg.size
          rcases ‹OnG N gb v' X k› with r | r | r | r
          · exact l1 k (.inl r)
          · exact l1 k (.inr (.inl r))
          · exact hv'lt k r
          · exact l1 k (.inr (.inr (.inr r)))
        · exact hv'lt k (by rw [e, q])
    · rcases hX b q with q | q
      · exact l2 q
      · omega
    · rcases hX g p with p | p
      · exact (hgv g q).1 p
      · have := owns_lt hR0 q; omega
    · obtain ⟨c1, c2, c3⟩ := hC
      refine ⟨c1, c2, c3.imp id ?_⟩
      rintro ⟨mb, e, hmG, hT⟩
      obtain ⟨_, _, ⟨d3, _⟩ | ⟨mb', e', _, hT'⟩⟩ := hC0
      · rw [d3] at e; cases e
      · rw [e'] at e
        obtain rfl : mb' = mb := by simpa using e
        refine ⟨mb', e', fun q => ?_, hT⟩
        rcases hX mb' q with q | q
        · exact hmG q
        · have := hT'.lt; omega
  · rw [List.length_append, mgF_app]
    exact hown
  · rcases hloc with e | e
    · rw [e]; exact h.ne
    · rw [e]
      intro q
      have := Option.some.inj q
      omega
theorem OnM.count (h : OnM N w0 b gb X s snt gt vs W) (j : Nat) (x : Int) : OnM N w0 b gb X s snt (gt.set j x) vs (W.setCell ⟨gb, j, none⟩ (.int .i64 x)) := by
  have hu : Upd gb W (W.setCell ⟨gb, j, none⟩ (.int .i64 x)) := (Upd.refl gb W).setCell j _
  refine ⟨⟨h.nin.net.keep hu.size fun k hk hn => hu.block k hk fun e => hn (.inr (.inl e)), h.nin.below.trans (hu.below h.low h.nin.size), h.nin.low⟩, owns_same h.row fun g hg => hu.block g (owns_lt h.row hg) fun e => h.ne (e ▸ hg), ?_, h.low, h.ne⟩
  have := h.got.set j (.int .i64 x)
  unfold gtV at *
  rw [List.map_set]
  exact this
theorem OnM.cell (h : OnM N w0 b gb X s snt gt vs W) (j : Nat) (x : Int) (hj : gt[j]? = some x) : W.cell? ⟨gb, j, none⟩ = some (.int .i64 x) ∧ W.frozen? ⟨gb, j, none⟩ = false :=
  ⟨h.got.at j _ (by simp [gtV, hj]), h.got.frozen j⟩
theorem OnM.msg (h : OnM N w0 b gb X s snt gt vs W) (j : Nat) (m : Mg) (hj : snt[j]? = some m) : ∃ g cap, vs = .slice (some ⟨g, 0, none⟩) snt.length cap ∧ W.rangeAt g (j * 4) (mgV m) := by
  refine row_msg (l := snt) ?_ j m hj
  obtain ⟨a1, a2⟩ := h.row
  refine ⟨a1, a2.imp id ?_⟩
  rintro ⟨g, cap, cur, e, hb, r⟩
  exact ⟨g, cap, cur, e, Nat.zero_le _, r⟩
end
end Go.Proofs.Ytmdoamkockoipaa
