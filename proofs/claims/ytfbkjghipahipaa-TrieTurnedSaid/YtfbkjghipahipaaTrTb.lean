/-
  A region that draws its order within a round, of which all operations but the last few only read, and the last few wait for all of these. No program is named here.
-/
import Derived.Test.YtfbkjghipahipaaTrTa
namespace Go.Proofs.Ytfbkjghipahipaa
open Go.RowKit
set_option linter.unusedVariables false
set_option linter.unusedSimpArgs false

def unl (listed : Array Bool) : Nat → Nat
  | 0 => 0
  | k + 1 => unl listed k + (if listed.getD k true = false then 1 else 0)
theorem unl_far {listed : Array Bool} {j : Nat} : ∀ {m : Nat}, m ≤ j → unl (listed.setIfInBounds j true) m = unl listed m
  | 0, _ => rfl
  | m + 1, h => by simp only [unl]; rw [unl_far (by omega), getD_set_ne true (by omega)]
theorem set_same {listed : Array Bool} {j : Nat} (h : listed.getD j true = false) : (listed.setIfInBounds j true).getD j true = true ∧ (listed.setIfInBounds j true).getD j false = true := by
  have hlt : j < listed.size := by
    rcases Nat.lt_or_ge j listed.size with q | q
    · exact q
    · simp [Array.getElem?_eq_none q] at h
  simp [hlt]
theorem unl_set {listed : Array Bool} {j : Nat} (h : listed.getD j true = false) : ∀ {m : Nat}, j < m → unl (listed.setIfInBounds j true) m + 1 = unl listed m
  | 0, hm => by omega
  | m + 1, hm => by
    simp only [unl]
    by_cases e : j = m
    · subst e
      rw [unl_far (Nat.le_refl _), (set_same h).1, h]; simp
    · rw [getD_set_ne true e]
      have := unl_set h (m := m) (by omega)
      omega
theorem unl_pos {listed : Array Bool} {j : Nat} (h : listed.getD j true = false) {m : Nat} (hj : j < m) : 1 ≤ unl listed m := by have := unl_set h hj; omega
theorem unl_zero {listed : Array Bool} {m : Nat} (h : unl listed m = 0) {j : Nat} (hj : j < m) : listed.getD j true = true := by
  cases hq : listed.getD j true
  · have := unl_pos hq hj; omega
  · rfl
section
variable {P : Program} {ops : Array Oper} {md : Region.Mode} {C : World → Prop}
def AnyR (P : Program) (md : Region.Mode) (ops : Array Oper) (C : World → Prop) (m : Nat) (R : Act → Prop) : Nat → Array Bool → Act → Prop
  | 0, _, a => R a
  | fuel + 1, listed, a => ∀ i ∈ Region.ready md ops listed, i < m → qOp P ops C i (AnyR P md ops C m R fuel (listed.setIfInBounds i true)) a
theorem anyR_first {m : Nat} {R : Act → Prop} {i : Nat} {oi : Oper} {v : Value} (hi : ops[i]? = some oi) (him : i < m) (hsel : ∀ (j : Nat) (o : Oper) cs b, ops[j]? = some o → o.op ≠ .select cs b) :
    ∀ (fuel : Nat) (listed : Array Bool) (a : Act), unl listed m = fuel + 1 →
      (∀ j oj, ops[j]? = some oj → j ≠ i → listed.getD j true = false → (∀ e ∈ oj.after, Region.binds md e = true → e.on ≠ i) → oi.apart ops oj = true) →
      i ∈ Region.ready md ops listed → YieldsIn P ops C oi v a →
      AnyR P md ops C m R fuel (listed.setIfInBounds i true) (a.put oi.dst v) → AnyR P md ops C m R (fuel + 1) listed a
  | 0, listed, a, hu, hfree, hr, hy, H => fun j hj hjm => by
    by_cases hji : j = i
    · subst hji; exact hy.qOp hi H
    · exfalso
      have h1 := unl_set (mem_ready.1 hr).1 him
      have h2 := unl_pos (listed := listed.setIfInBounds i true) (j := j) (by rw [getD_set_ne true (Ne.symm hji)]; exact (mem_ready.1 hj).1) hjm
      omega
  | fuel + 1, listed, a, hu, hfree, hr, hy, H => fun j hj hjm => by
    by_cases hji : j = i
    · subst hji; exact hy.qOp hi H
    · have h1 := H j (ready_mono hj hji) hjm
      obtain ⟨hjun, oj, hoj, hall⟩ := mem_ready.1 hj
      have hnot : ∀ e ∈ oj.after, Region.binds md e = true → e.on ≠ i := fun e he hb heq => by
        have h1 := hall e he hb
        have h0 := (mem_ready.1 hr).1
        rw [heq] at h1
        rcases Nat.lt_or_ge i listed.size with h' | h'
        · simp [h'] at h0 h1; rw [h0] at h1; cases h1
        · simp [Array.getElem?_eq_none h'] at h1
      have h2 := qOp_put hoj (hfree j oj hoj hji hjun hnot) (fun cs b => hsel i oi cs b hi) (fun cs b => hsel j oj cs b hoj) hy h1
      have hfree' : ∀ k ok, ops[k]? = some ok → k ≠ i → (listed.setIfInBounds j true).getD k true = false →
          (∀ e ∈ ok.after, Region.binds md e = true → e.on ≠ i) → oi.apart ops ok = true := fun k ok hk hki hun hno => by
        refine hfree k ok hk hki ?_ hno
        by_cases hjk : j = k
        · subst hjk; exact hjun
        · rw [getD_set_ne true hjk] at hun; exact hun
      have hu' : unl (listed.setIfInBounds j true) m = fuel + 1 := by have := unl_set hjun hjm; omega
      refine qOp_mono (fun a' h3 => anyR_first hi him hsel fuel (listed.setIfInBounds j true) a' hu' hfree' (ready_mono hr (Ne.symm hji)) h3.1 ?_) h2
      rw [Array.setIfInBounds_comm _ _ hji]
      exact h3.2
def lexP (md : Region.Mode) (ops : Array Oper) : Nat → Nat → Array Bool → Bool
  | 0, _, _ => true
  | fuel + 1, k, listed => (Region.ready md ops listed).contains k && Region.free md ops listed k && lexP md ops fuel (k + 1) (listed.setIfInBounds k true)
theorem anyR_lex {m : Nat} {R : Act → Prop} (hs : Region.noSelect ops = true) : ∀ (l : List Oper) (k : Nat) (listed : Array Bool) (a : Act), (∀ j, j < l.length → l[j]? = ops[k + j]?) → k + l.length = m → unl listed m = l.length →
    lexP md ops l.length k listed = true → wpQuiet P ops C R l a → AnyR P md ops C m R l.length listed a
  | [], _, _, _, _, _, _, _, h => h
  | o :: l, k, listed, a, hl, hk, hu, hB, h => by
    have h0 : ops[k]? = some o := by have := hl 0 (by simp); simpa using this.symm
    simp only [List.length_cons, lexP, Bool.and_eq_true] at hB
    obtain ⟨⟨hr, hf⟩, hB'⟩ := hB
    have hst : qOp P ops C k (wpQuiet P ops C R l) a := by unfold qOp; simp only [h0]; exact h
    obtain ⟨v, hy, hK⟩ := yieldsIn_of_qOp h0 hst
    have hr' : k ∈ Region.ready md ops listed := by simpa using hr
    have hkm : k < m := by simp at hk; omega
    have hu' : unl (listed.setIfInBounds k true) m = l.length := by have := unl_set (mem_ready.1 hr').1 hkm; simp at hu; omega
    exact anyR_first h0 hkm (Region.noSelect_spec hs) l.length listed a (by simpa using hu) (Region.free_spec h0 hf) hr' hy
      (anyR_lex hs l (k + 1) _ _ (fun j hj => by have := hl (j + 1) (by simp; omega); simpa [Nat.add_assoc, Nat.add_comm 1 j] using this) (by simp at hk; omega) hu' hB' hK)
def edge (md : Region.Mode) (ops : Array Oper) (p i : Nat) : Bool := match ops[p]? with | some o => o.after.any (fun e => Region.binds md e && e.on == i) | none => false
/-- Each of the first m waits for earlier ones alone, and is waited for by a later one, the m-th at last; what stands behind the m-th waits for it or for one behind it. -/
def chk (md : Region.Mode) (ops : Array Oper) (m : Nat) : Bool :=
  (List.range m).all (fun i => (List.range (m + 1)).any (fun p => decide (i < p) && edge md ops p i)) &&
  (List.range m).all (fun i => match ops[i]? with | some o => o.after.all (fun e => !Region.binds md e || decide (e.on < i)) | none => false) &&
  (List.range ops.size).all (fun t => decide (t ≤ m) || (List.range t).any (fun u => decide (m ≤ u) && edge md ops t u))
theorem edge_spec {p i : Nat} (h : edge md ops p i = true) : ∃ o, ops[p]? = some o ∧ ∃ e ∈ o.after, Region.binds md e = true ∧ e.on = i := by
  unfold edge at h
  split at h
  · rename_i o ho
    rw [Array.any_eq_true'] at h
    obtain ⟨e, he, h1⟩ := h
    simp at h1
    exact ⟨o, ho, e, he, h1.1, h1.2⟩
  · cases h
structure Hst (md : Region.Mode) (ops : Array Oper) (m : Nat) (listed : Array Bool) : Prop where
  sz : listed.size = ops.size
  dc : ∀ j o, ops[j]? = some o → listed.getD j false = true → ∀ e ∈ o.after, Region.binds md e = true → listed.getD e.on false = true
  hi : ∀ j, m ≤ j → listed.getD j false = false
theorem getD_tf {listed : Array Bool} {j : Nat} (h : listed.getD j true = false) : listed.getD j false = false := by
  rcases Nat.lt_or_ge j listed.size with q | q
  · simp [q] at h ⊢; exact h
  · simp [Array.getElem?_eq_none q] at h
theorem getD_ft {listed : Array Bool} {j : Nat} (h : listed.getD j false = true) : listed.getD j true = true := by
  rcases Nat.lt_or_ge j listed.size with q | q
  · simp [q] at h ⊢; exact h
  · simp [Array.getElem?_eq_none q] at h
/-- The m-th may come up only where all of the first m have. -/
theorem all_of_ready {m : Nat} {listed : Array Bool} (hc : chk md ops m = true) (hs : Hst md ops m listed) (hr : m ∈ Region.ready md ops listed) : ∀ d i, i + d + 1 = m → listed.getD i false = true := by
  simp only [chk, Bool.and_eq_true, List.all_eq_true, List.any_eq_true, List.mem_range, decide_eq_true_eq] at hc
  obtain ⟨⟨h1, h2⟩, h3⟩ := hc
  intro d
  induction d using Nat.strongRecOn with
  | ind d ih =>
    intro i hi
    obtain ⟨p, hp, hip, he⟩ := h1 i (by omega)
    obtain ⟨o, ho, e, hem, hb, heo⟩ := edge_spec he
    by_cases hpm : p = m
    · subst hpm
      obtain ⟨_, o', ho', hall⟩ := mem_ready.1 hr
      rw [ho] at ho'; cases ho'
      rw [← heo]; exact hall e hem hb
    · have hpl := ih (m - p - 1) (by omega) p (by omega)
      rw [← heo]; exact hs.dc p o ho hpl e hem hb
theorem none_behind {m t : Nat} {listed : Array Bool} (hc : chk md ops m = true) (hs : Hst md ops m listed) (ht : m < t) : t ∉ Region.ready md ops listed := fun hr => by
  simp only [chk, Bool.and_eq_true, List.all_eq_true, List.any_eq_true, List.mem_range, decide_eq_true_eq] at hc
  obtain ⟨_, h3⟩ := hc
  obtain ⟨_, o, ho, hall⟩ := mem_ready.1 hr
  have h4 := h3 t (Array.getElem?_eq_some_iff.1 ho).1
  rw [Bool.or_eq_true, List.any_eq_true] at h4
  rcases h4 with h4 | ⟨u, hu, h4⟩
  · simp at h4; omega
  · simp only [Bool.and_eq_true, decide_eq_true_eq] at h4
    obtain ⟨o', ho', e, hem, hb, heo⟩ := edge_spec h4.2
    rw [ho] at ho'; cases ho'
    have := hall e hem hb
    rw [heo, hs.hi u h4.1] at this
    cases this
theorem some_ready {m : Nat} {listed : Array Bool} (hc : chk md ops m = true) (hs : Hst md ops m listed) (hm : m ≤ ops.size) : ∀ d i, i + d = m → unl listed m ≠ unl listed i + 0 ∨ True → (∃ j, j < m ∧ listed.getD j true = false) → Region.ready md ops listed ≠ [] := by
  intro d i _ _ hex hnil
  obtain ⟨j, hj, hun⟩ := hex
  have key : ∀ k, k < m → listed.getD k true = false → False := by
    intro k
    induction k using Nat.strongRecOn with
    | ind k ih =>
      intro hk hku
      have hr : k ∈ Region.ready md ops listed := by
        refine mem_ready.2 ⟨hku, ops[k]'(by omega), by simp [show k < ops.size by omega], fun e he hb => ?_⟩
        have hc' := hc
        simp only [chk, Bool.and_eq_true, List.all_eq_true, List.mem_range] at hc'
        have h2 := hc'.1.2 k hk
        simp only [show ops[k]? = some (ops[k]'(by omega)) by simp [show k < ops.size by omega], Array.all_eq_true'] at h2
        have h5 := h2 e he
        simp [hb] at h5
        cases hq : listed.getD e.on true
        · exact (ih e.on h5 (by omega) hq).elim
        · rcases Nat.lt_or_ge e.on listed.size with q | q
          · simp [q] at hq ⊢; exact hq
          · have := hs.sz; omega
      rw [hnil] at hr; cases hr
  exact key j hj hun
def lst (m n : Nat) : Array Bool := (List.replicate m true ++ List.replicate n false).toArray
theorem lst_eq {m n : Nat} {listed : Array Bool} (hs : Hst md ops m listed) (hn : m + n = ops.size) (hu : unl listed m = 0) : listed = lst m n := by
  apply Array.ext
  · rw [hs.sz, ← hn]; simp [lst]
  · intro i h1 h2
    by_cases him : i < m
    · have := unl_zero hu him
      simp [h1] at this
      rw [this]; simp [lst, List.getElem_append, him]
    · have := hs.hi i (by omega)
      simp [h1] at this
      rw [this]; simp [lst, List.getElem_append, him]
theorem to_in {l n m tn : Nat} {R : Act → Prop} {Q' : Exit → Act → World → Prop} (hd : ∀ (i : Nat) (o : Oper), ops[i]? = some o → noDefer o = true) (hc : chk md ops m = true) (hsz : m + tn = ops.size)
    (hR : ∀ a w, C w → R a → wpAnyIn (Fence.wide.inRound l) n P md ops Q' tn (lst m tn) a w) :
    ∀ (fuel : Nat) (listed : Array Bool) (a : Act) (w : World), C w → Hst md ops m listed → unl listed m = fuel → AnyR P md ops C m R fuel listed a → wpAnyIn (Fence.wide.inRound l) n P md ops Q' (fuel + tn) listed a w
  | 0, listed, a, w, hw, hs, hu, h => by rw [Nat.zero_add, lst_eq hs hsz hu]; exact hR a w hw h
  | fuel + 1, listed, a, w, hw, hs, hu, h => by
    have hex : ∃ j, j < m ∧ listed.getD j true = false := by
      rcases Classical.em (∃ j, j < m ∧ listed.getD j true = false) with q | q
      · exact q
      · exfalso
        have hz : ∀ k, k ≤ m → unl listed k = 0 := by
          intro k
          induction k with
          | zero => intro _; rfl
          | succ k ih =>
            intro hk
            simp only [unl]
            rw [ih (by omega), if_neg (fun e => q ⟨k, by omega, e⟩)]
        have := hz m (Nat.le_refl _); omega
    rw [show fuel + 1 + tn = (fuel + tn) + 1 by omega]
    refine ⟨fun h0 => absurd h0 (some_ready hc hs (by omega) 0 m rfl (.inr trivial) hex), fun i hi => ?_⟩
    rcases Nat.lt_trichotomy i m with him | him | him
    · have hh := h i hi him
      obtain ⟨hun, o0, ho0, hall⟩ := mem_ready.1 hi
      have hu' : unl (listed.setIfInBounds i true) m = fuel := by have := unl_set hun him; omega
      have hs' : Hst md ops m (listed.setIfInBounds i true) := ⟨by simpa using hs.sz, fun j o ho hj e he hb => by
        by_cases hji : i = j
        · subst hji
          rw [ho0] at ho; cases ho
          exact getD_set_true (hall e he hb)
        · rw [getD_set_ne false hji] at hj
          exact getD_set_true (hs.dc j o ho hj e he hb), fun j hj => by rw [getD_set_ne false (by omega)]; exact hs.hi j hj⟩
      have hK : ∀ a' w', C w' → AnyR P md ops C m R fuel (listed.setIfInBounds i true) a' → wpAnyIn (Fence.wide.inRound l) n P md ops Q' (fuel + tn) (listed.setIfInBounds i true) a' w' := fun a' w' hw' h' => to_in hd hc hsz hR fuel _ a' w' hw' hs' hu' h'
      unfold qOp at hh
      unfold wpOpIn
      split
      · rename_i ho; simp only [ho] at hh; exact hK _ _ hw hh
      · rename_i o ho
        simp only [ho] at hh
        split
        · rename_i hwt; simp only [hwt, if_true] at hh; exact oper_round (hd i o ho) hw hK hh
        · rename_i hwt; simp only [hwt] at hh; exact ⟨fun f _ => trivial, hK _ _ hw hh⟩
    · subst him
      exfalso
      obtain ⟨j, hj, hun⟩ := hex
      have := all_of_ready hc hs hi (i - j - 1) j (by omega)
      rw [getD_tf hun] at this; cases this
    · exact absurd hi (none_behind hc hs him)
/-- The first m in the order of the text, then the rest as they come. -/
theorem wpIn_region_pre {id l n m tn : Nat} {Q : Exit → Act → World → Prop} {a : Act} {w : World} {os : List Oper} (W : World) (hW : Below W.heap.size W w) (hm : P.follows .mixedOrders = true) (hs : Region.noSelect os.toArray = true) (hsz : m + tn = os.length) (hB : lexP .any os.toArray m 0 (Array.replicate os.length false) = true) (hc : chk .any os.toArray m = true) (hd : os.all noDefer = true)
    (hu0 : unl (Array.replicate os.length false) m = m)
    (h : wpQuiet P os.toArray (fun w' => ∃ x : Kin W, w' = x.val) (fun a' => ∀ w', (∃ x : Kin W, w' = x.val) → wpAnyIn (Fence.wide.inRound l) n P .any os.toArray Q tn (lst m tn) a' w') (os.take m) a) : (Code.region id os.toArray true).wpIn (Fence.wide.inRound l) n P Q a w := by
  refine wpIn_region_any hm ?_
  have hl : (os.take m).length = m := by rw [List.length_take]; omega
  have hA := anyR_lex (P := P) (md := .any) (m := m) (C := fun w' => ∃ x : Kin W, w' = x.val) hs (os.take m) 0 (Array.replicate os.length false) a (fun j hj => by
    rw [hl] at hj
    rw [List.getElem?_take_of_lt hj]; simp) (by omega) (by rw [hl]; exact hu0) (by rw [hl]; exact hB) h
  rw [hl] at hA
  have hsz' : m + tn = os.toArray.size := by simpa using hsz
  have := to_in (P := P) (md := .any) (ops := os.toArray) (C := fun w' => ∃ x : Kin W, w' = x.val) (l := l) (n := n) (m := m) (tn := tn) (Q' := Q) (fun i o ho => List.all_eq_true.1 hd o (List.mem_of_getElem? (l := os) (i := i) (by simpa using ho))) hc hsz' (fun a w hw h => h w hw) m (Array.replicate os.length false) a { w with drawn := w.drawn + 1 } ⟨⟨_, hW.drew⟩, rfl⟩
    ⟨by simp, fun j o ho hj => by
      exfalso
      rcases Nat.lt_or_ge j os.length with q | q
      · simp [q] at hj
      · simp [q] at hj, fun j hj => by
        rcases Nat.lt_or_ge j os.length with q | q
        · simp [q]
        · simp [q]⟩ hu0 hA
  rw [hsz'] at this
  exact this
/-- One operation alone may come up. -/
theorem any_one {F : Fence} {n i fuel : Nat} {Q : Exit → Act → World → Prop} {listed : Array Bool} {a : Act} {w : World} (hr : Region.ready md ops listed = [i]) (h : wpOpIn F n P ops Q i (wpAnyIn F n P md ops Q fuel (listed.setIfInBounds i true)) a w) : wpAnyIn F n P md ops Q (fuel + 1) listed a w :=
  ⟨fun h0 => (by rw [hr] at h0; cases h0), fun j hj => (by rw [hr] at hj; simp at hj; subst hj; exact h)⟩
theorem op_in {F : Fence} {n i : Nat} {o : Oper} {Q : Exit → Act → World → Prop} {K : Act → World → Prop} {a : Act} {w : World} (hi : ops[i]? = some o) (hw : Region.wanted o (yielded ops a.tmps) = true) (h : ∀ K' : Act → World → Prop, (∀ a w, K a w → K' a w) → o.wpIn F n P a w K' Q) : wpOpIn F n P ops Q i K a w := by
  unfold wpOpIn
  simp only [hi, hw, if_true]
  exact h K fun _ _ h => h
end
end Go.Proofs.Ytfbkjghipahipaa
