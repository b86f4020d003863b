/-
  A scope in which the run jumps to any of its labels: what holds at each (J), and one measure that every pass lowers. (The library's wp_scope_jumps is for one label.) No program is named here.
-/
import Derived.ScopeJumps
namespace Go.Proofs.YtehedlgdencboabGreatDoor
set_option linter.unusedVariables false

/-- By a goto to a label l: what J says of l; by any other way out: Q. -/
def jumpsTo (J : Nat → Act → World → Prop) (Q : Exit → Act → World → Prop) : Exit → Act → World → Prop
  | .goto l, a, w => J l a w
  | e, a, w => Q e a w

section
variable {P : Program} {a : Act} {w : World} {Q : Exit → Act → World → Prop}

/-- Code that lies in a scope comes to an end, if all do to which it jumps. -/
theorem within_scope {c d : Code} {J : Nat → Act → World → Prop} {b : Frame} {k : List Item} {cs : List Frame}
    (on : ∀ l a w, J l a w → ∃ rest, findLabel c l = some rest ∧ ∃ e a' w', Q e a' w' ∧
      Arrives P (lone (b.at a (.code rest :: .inScope c :: k)) cs w) b k cs e a' w')
    (hd : d.wp P (jumpsTo J Q) a w) :
    ∃ e a' w', Q e a' w' ∧ Arrives P (lone (b.at a (.code d :: .inScope c :: k)) cs w) b k cs e a' w' := by
  obtain ⟨e, a₁, w₁, hq, ha⟩ := hd b (.inScope c :: k) cs
  rcases e with _ | id | l | _ | ch | _
  · exact ⟨.normal, a₁, w₁, hq, Steps.trans ha (.one step_inScope)⟩
  · exact ⟨.exit id, a₁, w₁, hq, fun k' hk => ha k' (by simp [exitTo, hk])⟩
  · obtain ⟨rest, hf, e₂, a₂, w₂, hq₂, ha₂⟩ := on l a₁ w₁ hq
    exact ⟨e₂, a₂, w₂, hq₂, .of_steps (ha _ (by simp [gotoIn, hf])) ha₂⟩
  all_goals exact ⟨_, a₁, w₁, hq, ha⟩

theorem scope_labels {c : Code} (J : Nat → Act → World → Prop) (μ : Nat → Act → World → Nat)
    (first : c.wp P (jumpsTo J Q) a w)
    (pass : ∀ l a w, J l a w → ∃ rest, findLabel c l = some rest ∧
      rest.wp P (jumpsTo (fun l' a' w' => J l' a' w' ∧ μ l' a' w' < μ l a w) Q) a w) :
    (Code.scope c).wp P Q a w := by
  intro b k cs
  have key : ∀ n l a w, μ l a w < n → J l a w → ∃ rest, findLabel c l = some rest ∧ ∃ e a' w', Q e a' w' ∧
      Arrives P (lone (b.at a (.code rest :: .inScope c :: k)) cs w) b k cs e a' w' := by
    intro n
    induction n with
    | zero => intro l a w h; omega
    | succ n ih =>
      intro l a w hn hJ
      obtain ⟨rest, hf, hp⟩ := pass l a w hJ
      exact ⟨rest, hf, within_scope (fun l' a' w' h => ih l' a' w' (by omega) h.1) hp⟩
  obtain ⟨e, a', w', hq, ha⟩ := within_scope (k := k) (b := b) (cs := cs) (fun l a w h => key _ l a w (Nat.lt_succ_self _) h) first
  exact ⟨e, a', w', hq, .of_steps (.one step_scope) ha⟩

/-- Where one label's code runs on into the next label: what holds there of the next one's jumps. -/
theorem jumps_mono {d : Code} {J J' : Nat → Act → World → Prop} (h : ∀ l a w, J l a w → J' l a w) (hd : d.wp P (jumpsTo J Q) a w) : d.wp P (jumpsTo J' Q) a w :=
  wp_mono hd fun e a w q => by
    cases e with
    | goto l => exact h l a w q
    | _ => exact q
/-- The code behind a label. -/
def past : Code → Option Code
  | .seq .skip d => some d
  | _ => none
def behind (c : Code) (l : Nat) : Option Code := (findLabel c l).bind past
theorem past_wp {r d : Code} (h : past r = some d) (hd : d.wp P Q a w) : r.wp P Q a w := by
  unfold past at h
  split at h
  · cases h
    exact wp_seq (wp_skip hd)
  · cases h
theorem behind_wp {c d : Code} {l : Nat} (h : behind c l = some d) (hd : d.wp P Q a w) : ∃ rest, findLabel c l = some rest ∧ rest.wp P Q a w := by
  unfold behind at h
  obtain ⟨r, hr, hp⟩ := Option.bind_eq_some_iff.1 h
  exact ⟨r, hr, past_wp hp hd⟩
/-- As scope_labels, and who runs into a label from above may take what is proved of that label ('enter'): at the front at any measure, in a pass at a lower one. -/
theorem scope_enters {c : Code} (J : Nat → Act → World → Prop) (μ : Nat → Act → World → Nat)
    (pass : ∀ l a w, J l a w →
      (∀ l' a' w', J l' a' w' → μ l' a' w' < μ l a w → ∃ d, behind c l' = some d ∧ d.wp P (jumpsTo (fun l' a' w' => J l' a' w' ∧ μ l' a' w' < μ l a w) Q) a' w') →
      ∃ d, behind c l = some d ∧ d.wp P (jumpsTo (fun l' a' w' => J l' a' w' ∧ μ l' a' w' < μ l a w) Q) a w)
    (first : (∀ l a w, J l a w → ∃ d, behind c l = some d ∧ d.wp P (jumpsTo J Q) a w) → c.wp P (jumpsTo J Q) a w) :
    (Code.scope c).wp P Q a w := by
  have all : ∀ n l a w, μ l a w < n → J l a w → ∃ d, behind c l = some d ∧ d.wp P (jumpsTo (fun l' a' w' => J l' a' w' ∧ μ l' a' w' < μ l a w) Q) a w := by
    intro n
    induction n with
    | zero => intro l a w h; omega
    | succ n ih =>
      intro l a w hn hJ
      refine pass l a w hJ fun l' a' w' hJ' hlt => ?_
      obtain ⟨d, hf, hp⟩ := ih l' a' w' (by omega) hJ'
      exact ⟨d, hf, jumps_mono (fun _ _ _ q => ⟨q.1, Nat.lt_trans q.2 hlt⟩) hp⟩
  refine scope_labels J μ (first fun l a w hJ => ?_) fun l a w hJ => ?_
  · obtain ⟨d, hf, hp⟩ := all _ l a w (Nat.lt_succ_self _) hJ
    exact ⟨d, hf, jumps_mono (fun _ _ _ q => q.1) hp⟩
  · obtain ⟨d, hf, hp⟩ := all _ l a w (Nat.lt_succ_self _) hJ
    exact behind_wp hf hp
end
end Go.Proofs.YtehedlgdencboabGreatDoor
