/- A ring that is being read: what lies in memory. -/
import Derived.Test.YthmnjebmnocoiaaGreatYGsRdQ
import Derived.Test.YthmnjebmnocoiaaGreatYGsMem
import Derived.Test.YthmnjebmnocoiaaGreatYA2
import Derived.Test.YthmnjebmnocoiaaGreatYE1
namespace Go.Proofs.YthmnjebmnocoiaaGreat.En
open Go.RowKit
variable {ops : Array Oper} {Q : Exit → Act → World → Prop}

theorem own_upd {w w' : World} {m n b : Nat} {v : Value} {xs : List Value} (h : w.ownsRow m 53 3 v n xs) (hu : Upd b w w') (hb : ∀ cs fr, w.heap[b]? ≠ some (.cells cs 53 fr)) : w'.ownsRow m 53 3 v n xs := by
  obtain ⟨h1, h2⟩ := h
  refine ⟨h1, ?_⟩
  rcases h2 with q | ⟨g, cap, cur, e, hg, hh, r⟩
  · exact .inl q
  · refine .inr ⟨g, cap, cur, e, hg, ?_, r⟩
    rw [hu.block g (Array.getElem?_eq_some_iff.1 hh).1 (fun e => hb cur (0, 0) (by rw [← e]; exact hh))]
    exact hh
theorem own53_base {w : World} {m n : Nat} {v : Value} {xs : List Value} (h : w.ownsRow m 53 3 v n xs) (j : Nat) (e : v.ownBlock = some j) : m ≤ j := by
  rcases h.2 with ⟨rfl, _⟩ | ⟨g, cap, cur, rfl, hg, _⟩
  · cases e
  · cases e; exact hg
theorem own53_gr {w w' : World} {m n : Nat} {v : Value} {xs : List Value} (h : w.ownsRow m 53 3 v n xs) (hg : Gr w w') : w'.ownsRow m 53 3 v n xs := by
  obtain ⟨h1, h2⟩ := h
  refine ⟨h1, ?_⟩
  rcases h2 with q | ⟨g, cap, cur, e, hgb, hh, r⟩
  · exact .inl q
  · exact .inr ⟨g, cap, cur, e, hgb, by rw [hg.block g (Array.getElem?_eq_some_iff.1 hh).1]; exact hh, r⟩
section

end
end Go.Proofs.YthmnjebmnocoiaaGreat.En
