/- gossip's Read (31): regions and code by tools/gen_gread.py. -/
import Derived.Test.YthmnjebmnocoiaaGreatYGsRdA
import Derived.Test.YthmnjebmnocoiaaGreatYGsRdBk
import Derived.Test.YthmnjebmnocoiaaGreatYGsPlan
import Derived.Test.YthmnjebmnocoiaaGreatYR3
import Derived.Test.YthmnjebmnocoiaaGreatYGsNewW
import Derived.Test.YthmnjebmnocoiaaGreatYGsBytB
namespace Go.Proofs.YthmnjebmnocoiaaGreat.En
open Go.RowKit
theorem op_mv {P : Program} {Q : Exit → Act → World → Prop} {o : Oper} {a : Act} {w : World} {K : Act → World → Prop} (u : Operand) (s : Value) (ho : o.op = .move u ∨ o.op = .assign u) (e : a.eval u = s) (d : Nat) (hd : o.dst = some d) (h : K (a.put (some d) s) w) : o.wp P a w K Q := op_move u ho (by rw [e, hd]; exact h)
theorem siz25 : (Tryz.prog.info? 25).map (·.size) = some 2 := by kernel_rfl
theorem Turned.upd {c : Nat} {x y : World} {cs : List Value} {t : TypeId} (h : Turned c x y cs t) : Upd c x y := ⟨h.os, h.tape, h.output, Nat.le_of_eq h.size.symm, fun k _ hk => h.others k hk⟩
theorem noC_len : (ringC (.slice none 0 0) ([], noOs)).length = 17 := rfl
end Go.Proofs.YthmnjebmnocoiaaGreat.En
