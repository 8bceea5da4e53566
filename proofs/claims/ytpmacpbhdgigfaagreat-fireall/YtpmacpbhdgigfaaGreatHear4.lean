/- listen.Add, Drop, Check, and the document's own. -/
import Derived.Test.YtpmacpbhdgigfaaGreatHear3
import Derived.Test.YtpmacpbhdgigfaaGreatHearC
namespace Go.Proofs.YtpmacpbhdgigfaaGreat.L8
open Go.RowKit

theorem holds_below {w w' : World} {u : Value} {m : Nat} {news : List Value} (h : Holds w u m news) (hb : Below w.heap.size w w') : Holds w' u m news := by
  rcases h with ⟨ad, c, rfl, hc⟩ | h
  · exact .inl ⟨ad, c, rfl, fun j x hx => cell_below hb (hc j x hx)⟩
  · exact .inr h
theorem wp_append_any {P : Program} {w : World} {o : Oper} {a : Act} {K : Act → World → Prop} {Q : Exit → Act → World → Prop} (s x : Operand) (t : TypeId)
    (ho : o.op = .call { callee := .builtin .append, args := #[s, x], argTypes := #[t, t] })
    (base : Nat) (e : TypeId) (i : TypeInfo) (z : Value) (size bytes : Nat) (ht : P.underlying t = some (.slice e)) (hi : P.info? e = some i) (hz : i.zero = some z)
    (hsize : i.size = size) (hby : i.bytes = bytes) (hzs : z.cells.size = size) (hsz : 0 < size)
    (v : Value) (n : Nat) (xs : List Value) (hs : a.eval s = v) (hown : w.ownsRow base e size v n xs)
    (u : Value) (m : Nat) (news : List Value) (hx : a.eval x = u) (hu : Holds w u m news) (hl : news.length = m * size) (h1 : ∀ x ∈ news, x.oneCell' = true)
    (h63 : n + m ≤ maxLen) (hbytes : (n + m) * bytes ≤ 140737488355328) (hbase : base ≤ w.heap.size)
    (h : ∀ v' w', w'.ownsRow base e size v' (n + m) (xs ++ news) → w.grownBy w' v.ownBlock → (∀ k, v'.ownBlock = some k → v.ownBlock = some k ∨ w.heap.size ≤ k) → K (a.put o.dst v') w') : Oper.wp P o a w K Q := by
  obtain ⟨v', w', hrun, h2, h3, h4⟩ := append_any (P := P) w base t o.type e i z size bytes ht hi hz hsize hby hzs hsz v n xs hown u m news hu hl h1 h63 hbytes hbase
  unfold Oper.wp
  simp [execOp, ho, resolve, invoke, builtin, hs, hx, hrun, Result.andThen, Oper.upon]
  exact h v' w' h2 h3 h4

def addE (l : List Hr) (h : Hr) : Int := if mayH h then (if hasB l h then 0 else if 64 ≤ l.length then 4 else 0) else 1
def addL (l : List Hr) (h : Hr) : List Hr := if mayH h && !hasB l h && decide (l.length < 64) then l ++ [h] else l

end Go.Proofs.YtpmacpbhdgigfaaGreat.L8
