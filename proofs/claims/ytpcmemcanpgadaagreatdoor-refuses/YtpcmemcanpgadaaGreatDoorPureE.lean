import Derived.Tactics
/-! A region that does not draw, run in the kernel: each operation gives a value. -/

namespace Go

def evalOps (P : Program) : List Oper → Act → World → Option (Act × World)
  | [], a, w => some (a, w)
  | o :: r, a, w => match o.guard, (execOp a.eval o).run P w with
    | none, .ok (.value v) w' => evalOps P r (a.put o.dst v) w'
    | _, _ => none

theorem wpList_eval {P : Program} {ops : Array Oper} {Q : Exit → Act → World → Prop} : ∀ (l : List Oper) (a : Act) (w : World) (x : Act × World), evalOps P l a w = some x → Q .normal x.1 x.2 → wpList P ops Q l a w
  | [], a, w, x, h, hQ => by
    rw [evalOps] at h
    cases h
    exact wpList_nil hQ
  | o :: r, a, w, x, h, hQ => by
    rw [evalOps] at h
    split at h
    · rename_i v w' hg hr
      refine wpList_plain hg fun K hK => ?_
      unfold Oper.wp
      rw [hr]
      exact hK _ _ (wpList_eval r _ _ x h hQ)
    · cases h

theorem wp_region_eval {P : Program} {id : Nat} {l : List Oper} {Q : Exit → Act → World → Prop} {a : Act} {w : World} (x : Act × World) (h : evalOps P l a w = some x) (hQ : Q .normal x.1 x.2) : (Code.region id l.toArray false).wp P Q a w :=
  wp_region_lit (wpList_eval l a w x h hQ)

theorem wp_region_eval2 {P : Program} {id : Nat} {l : List Oper} {Q : Exit → Act → World → Prop} {a : Act} {w : World} (h : (evalOps P l a w).isSome = true) (hQ : ∀ x, evalOps P l a w = some x → Q .normal x.1 x.2) : (Code.region id l.toArray false).wp P Q a w := by
  obtain ⟨x, hx⟩ := Option.isSome_iff_exists.1 h
  exact wp_region_eval x hx (hQ x hx)

end Go
