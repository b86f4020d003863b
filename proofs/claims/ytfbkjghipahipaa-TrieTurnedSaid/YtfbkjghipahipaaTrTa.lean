/-
  A region that draws its order within a round of a range over a function. (The same as for tables.)
-/
import Derived.LoopN
import Derived.Test.YtfbkjghipahipaaPxKin
import Derived.OrdersIn
import Derived.RangeFuncCalls
import Derived.TacticsInMore
namespace Go.Proofs.Ytfbkjghipahipaa
open Go.RowKit
set_option linter.unusedVariables false
set_option linter.unusedSimpArgs false

def noDefer (o : Oper) : Bool := match o.op with | .defer _ => false | _ => true
theorem noDefer_spec {o : Oper} (h : noDefer o = true) : ∀ c, o.op ≠ .defer c := by
  intro c e
  unfold noDefer at h
  rw [e] at h
  cases h
theorem oper_round {P : Program} {C : World → Prop} {l n : Nat} {o : Oper} {a : Act} {K : Act → Prop} {K' : Act → World → Prop} {Q' : Exit → Act → World → Prop} {w : World} (hd : noDefer o = true) (hw : C w) (h : ∀ a w', C w' → K a → K' a w')
    (hh : o.quiet P a C K) : o.wpIn (Fence.wide.inRound l) n P a w K' Q' := by
  obtain ⟨v, h1, h2⟩ := hh
  have h3 := h1 w hw
  unfold Oper.quietAt at h3
  unfold Oper.wpIn
  refine ⟨fun f _ => trivial, ?_⟩
  rw [Fence.inRound_round, Oper.semAt_some l _ _ (noDefer_spec hd)]
  generalize (execOp a.eval o).run P w = r at *
  cases r with
  | ok x w' =>
    cases x <;> simp only [Oper.quietUpon] at h3 <;> simp only [Oper.uponIn]
    case value u =>
      obtain ⟨e1, e2⟩ := h3
      rw [e1, e2]
      exact h _ _ hw h2
    case skip =>
      obtain ⟨e1, e2⟩ := h3
      rw [e1, ← e2]
      exact h _ _ hw h2
    case enter f args =>
      obtain ⟨e1, hc⟩ := h3
      rw [e1]
      exact ⟨fun hh => by simp [Fence.wide] at hh, CallsIn.inRound l ((callsIn_wide.2 hc).mono fun e w'' ⟨he, hw''⟩ => by subst he; exact h _ _ hw'' h2)⟩
  | halt x w' => simp only [Oper.quietUpon] at h3
theorem anyIn_round {P : Program} {ops : Array Oper} {md : Region.Mode} {C : World → Prop} {l n : Nat} {Q : Act → Prop} {Q' : Exit → Act → World → Prop} (hd : ∀ (i : Nat) (o : Oper), ops[i]? = some o → noDefer o = true) (hQ : ∀ a w, C w → Q a → Q' .normal a w) :
    ∀ (fuel : Nat) (listed : Array Bool) (a : Act) (w : World), C w → wpAnyQ P md ops C Q fuel listed a → wpAnyIn (Fence.wide.inRound l) n P md ops Q' fuel listed a w
  | 0, _, _, _, hw, h => ⟨h.1, hQ _ _ hw h.2⟩
  | fuel + 1, listed, a, w, hw, h => ⟨fun h0 => hQ _ _ hw (h.1 h0), fun i hi => by
      have hh := h.2 i hi
      have hK : ∀ a' w', C w' → wpAnyQ P md ops C Q fuel (listed.setIfInBounds i true) a' → wpAnyIn (Fence.wide.inRound l) n P md ops Q' fuel (listed.setIfInBounds i true) a' w' := fun a' w' hw' => anyIn_round hd hQ fuel _ a' w' hw'
      unfold qOp at hh
      unfold wpOpIn
      split
      · rename_i ho; simp only [ho] at hh; exact hK _ _ hw hh
      · rename_i o ho
        simp only [ho] at hh
        split
        · rename_i hwt; simp only [hwt, if_true] at hh; exact oper_round (hd i o ho) hw hK hh
        · rename_i hwt; simp only [hwt] at hh; exact ⟨fun f _ => trivial, hK _ _ hw hh⟩⟩
/-- One walk in the order of the text serves every order, within a round. -/
theorem wpIn_region_kinR {P : Program} {id l n : Nat} {Q : Exit → Act → World → Prop} {a : Act} {w : World} {os : List Oper} (W : World) (hW : Below W.heap.size W w) (hm : P.follows .mixedOrders = true) (hB : Region.lexB .any os.toArray = true) (hd : os.all noDefer = true)
    (h : wpQuiet P os.toArray (fun w' => ∃ x : Kin W, w' = x.val) (fun a' => ∀ w', (∃ x : Kin W, w' = x.val) → Q .normal a' w') os a) : (Code.region id os.toArray true).wpIn (Fence.wide.inRound l) n P Q a w := by
  simp only [Region.lexB, Bool.and_eq_true] at hB
  refine wpIn_region_any hm (anyIn_round (C := fun w' => ∃ x : Kin W, w' = x.val) (Q := fun a' => ∀ w', (∃ x : Kin W, w' = x.val) → Q .normal a' w') (fun i o ho => ?_) (fun _ w' hw' h => h w' hw') _ _ _ _ ⟨⟨_, hW.drew⟩, rfl⟩ ?_)
  · exact List.all_eq_true.1 hd o (by
      have := List.mem_of_getElem? (l := os) (i := i) (a := o) (by simpa using ho)
      exact this)
  · have := wpAnyQ_lex (P := P) (C := fun w' => ∃ x : Kin W, w' = x.val) (md := .any) hB.1 os 0 (Array.replicate os.length false) a (by simp) (by simpa using hB.2) h
    simpa using this
end Go.Proofs.Ytfbkjghipahipaa
