/-
  Cuts of rows of entries, and the mathematics of the document's list. Written by tools/mkHi.py.
-/
import Derived.Test.YthfjdoenofkghaaHhW
namespace Go.Proofs.Ythfjdoenofkghaa
open Go.RowKit
set_option linter.unusedVariables false
set_option linter.unusedSimpArgs false

/-- A cut of a slice. -/
def cutY (ad : Option Addr) (l h cap : Nat) : Value := .slice (if cap = l then ad else ad.map (·.add (l * 6))) (h - l) (cap - l)
theorem cutY_zero (ad : Option Addr) (n cap : Nat) : cutY ad 0 n cap = .slice ad n cap := by
  unfold cutY
  cases ad with
  | none => simp
  | some a => obtain ⟨b, o, s⟩ := a; simp [Addr.add]
theorem sizeY (w : World) : (sizeOf 52).run Try.prog w = .ok 6 w := by
  obtain ⟨i0, hi, hz0, hz1, hz2⟩ := info_parts infoY
  simp [sizeOf, typeInfo, hi, hz1]
theorem elemY : Try.prog.elem 32 = 52 := by kernel_rfl
theorem underY : Try.prog.underlying 32 = some (.slice (Try.prog.elem 32)) := by rw [elemY]; exact Try.underlying32
theorem run_cut_lh (w : World) (ad : Option Addr) (n cap l h : Nat) (h1 : l ≤ h) (h2 : h ≤ cap) : (Instr.sliceAt 32 (.slice ad n cap) (some (.int .i64 (l : Int))) (some (.int .i64 (h : Int))) none).run Try.prog w = .ok (cutY ad l h cap) w := by
  rw [run_sliceAt_slice _ _ _ _ _ _ underY, run_slice_lh w 32 ad n cap underY .i64 .i64 l h (by omega) (by omega) (by omega), elemY, sizeY]
  simp [Result.andThen, sliced, cutY]
theorem run_cut_l (w : World) (ad : Option Addr) (n cap l : Nat) (h1 : l ≤ n) : (Instr.sliceAt 32 (.slice ad n cap) (some (.int .i64 (l : Int))) none none).run Try.prog w = .ok (cutY ad l n cap) w := by
  rw [run_sliceAt_slice _ _ _ _ _ _ underY, run_slice_l w 32 ad n cap underY .i64 l (by omega) (by omega), elemY, sizeY]
  simp [Result.andThen, sliced, cutY]
theorem run_cut_h (w : World) (ad : Option Addr) (n cap h : Nat) (h2 : h ≤ cap) : (Instr.sliceAt 32 (.slice ad n cap) none (some (.int .i64 (h : Int))) none).run Try.prog w = .ok (cutY ad 0 h cap) w := by
  rw [run_sliceAt_slice _ _ _ _ _ _ underY, run_slice_h w 32 ad n cap underY .i64 h (by omega) (by omega), elemY, sizeY]
  simp [Result.andThen, sliced, cutY]
theorem SrcY.cut {w : World} {ad : Option Addr} {n cap : Nat} {l : List Ey} (h : SrcY w (.slice ad n cap) l) (lo hi : Nat) (h1 : lo ≤ hi) (h2 : hi ≤ l.length) : SrcY w (cutY ad lo hi cap) ((l.take hi).drop lo) := by
  obtain ⟨ad', c, e, hc, h3⟩ := h
  cases e
  have hlen : ((l.take hi).drop lo).length = hi - lo := by rw [List.length_drop, List.length_take]; omega
  refine ⟨(if cap = lo then ad else ad.map (·.add (lo * 6))), cap - lo, ?_, ?_, fun h0 => ?_⟩
  · unfold cutY; rw [hlen]
  · refine ⟨by rw [hlen]; omega, fun e => ?_⟩
    split at e
    · omega
    · cases ad with
      | none => have := hc.2 rfl; omega
      | some a => cases e
  · rw [hlen] at h0
    obtain ⟨g, off, rfl, h4⟩ := h3 (by omega)
    rw [if_neg (by omega)]
    refine ⟨g, off + lo * 6, by simp [Addr.add], fun k hk j hj => ?_⟩
    rw [hlen] at hk
    have := h4 (lo + k) (by omega) j hj
    rw [show off + lo * 6 + (k * 6 + j) = off + ((lo + k) * 6 + j) by omega, this]
    congr 2
    simp
theorem cut_l' (w : World) (ad : Option Addr) (n cap l : Nat) (x : Int) (hx : x = (l : Int)) (h1 : l ≤ n) : (Instr.sliceAt 32 (.slice ad n cap) (some (.int .i64 x)) none none).run Try.prog w = .ok (cutY ad l n cap) w := by
  subst hx; exact run_cut_l w ad n cap l h1
theorem cut_lh' (w : World) (ad : Option Addr) (n cap l h : Nat) (x y : Int) (hx : x = (l : Int)) (hy : y = (h : Int)) (h1 : l ≤ h) (h2 : h ≤ cap) : (Instr.sliceAt 32 (.slice ad n cap) (some (.int .i64 x)) (some (.int .i64 y)) none).run Try.prog w = .ok (cutY ad l h cap) w := by
  subst hx hy; exact run_cut_lh w ad n cap l h h1 h2
theorem cut_h' (w : World) (ad : Option Addr) (n cap h : Nat) (y : Int) (hy : y = (h : Int)) (h2 : h ≤ cap) : (Instr.sliceAt 32 (.slice ad n cap) none (some (.int .i64 y)) none).run Try.prog w = .ok (.slice ad h cap) w := by
  subst hy; rw [run_cut_h w ad n cap h h2, cutY_zero]
theorem wpList_cut {P : Program} {ops : Array Oper} {rest : List Oper} {op : Oper} {a : Act} {w : World} {Q : Exit → Act → World → Prop} (hgd : op.guard = none) (ty : TypeId) (x : Operand) (lo hi mx : Option Operand) (ho : op.op = .slice ty x lo hi mx) (v : Value)
    (hr : (Instr.sliceAt ty (a.eval x) (lo.map a.eval) (hi.map a.eval) (mx.map a.eval)).run P w = .ok v w) (hk : wpList P ops Q rest (a.put op.dst v) w) : wpList P ops Q (op :: rest) a w := by
  refine wpList_plain hgd fun K hK => ?_
  unfold Oper.wp execOp
  simp only [ho, Sem.run_bind, hr, Result.andThen_ok, Sem.run_pure]
  exact hK _ _ hk
theorem wpList_move {P : Program} {ops : Array Oper} {rest : List Oper} {op : Oper} {a : Act} {w : World} {Q : Exit → Act → World → Prop} (hgd : op.guard = none) (x : Operand) (ho : op.op = .move x) (v : Value) (hx : a.eval x = v)
    (hk : wpList P ops Q rest (a.put op.dst v) w) : wpList P ops Q (op :: rest) a w := by
  refine wpList_plain hgd fun K hK => ?_
  unfold Oper.wp execOp
  simp only [ho, hx, Sem.run_bind, Result.andThen_ok, Sem.run_pure]
  exact hK _ _ hk
theorem wpList_assign {P : Program} {ops : Array Oper} {rest : List Oper} {op : Oper} {a : Act} {w : World} {Q : Exit → Act → World → Prop} (hgd : op.guard = none) (x : Operand) (ho : op.op = .assign x) (v : Value) (hx : a.eval x = v)
    (hk : wpList P ops Q rest (a.put op.dst v) w) : wpList P ops Q (op :: rest) a w := by
  refine wpList_plain hgd fun K hK => ?_
  unfold Oper.wp execOp
  simp only [ho, hx, Sem.run_bind, Result.andThen_ok, Sem.run_pure]
  exact hK _ _ hk
theorem wpList_add1 {ops : Array Oper} {rest : List Oper} {op : Oper} {a : Act} {w : World} {Q : Exit → Act → World → Prop} (hgd : op.guard = none) (x : Operand) (ho : op.op = .binOp .add 3 x (.const (.int .i64 1)) 3) (k : Int) (hx : a.eval x = .int .i64 k) (hw : IntKind.i64.wrap (k + 1) = k + 1)
    (hk : wpList Try.prog ops Q rest (a.put op.dst (.int .i64 (k + 1))) w) : wpList Try.prog ops Q (op :: rest) a w := by
  refine wpList_plain hgd fun K hK => ?_
  have hc : a.eval (.const (.int .i64 1)) = .int .i64 1 := rfl
  have hb : Sem.run Try.prog (binOp .add 3 (.int .i64 k) (.int .i64 1)) w = .ok (.int .i64 (k + 1)) w := by simp [go_sem, hw]
  have hg : Sem.run Try.prog (eqGuard BinOp.add 3 x (.const (.int .i64 1)) (.int .i64 k) (.int .i64 1)) w = .ok () w := by simp [eqGuard]
  unfold Oper.wp execOp
  simp only [ho, hx, hc, Sem.run_bind, hg, hb, Result.andThen_ok, Sem.run_pure]
  exact hK _ _ hk
theorem SrcY.cut0 {w : World} {ad : Option Addr} {n cap : Nat} {l : List Ey} (h : SrcY w (.slice ad n cap) l) (p : Nat) (hp : p ≤ l.length) : SrcY w (.slice ad p cap) (l.take p) := by
  have := h.cut 0 p (Nat.zero_le _) hp
  rw [cutY_zero, List.drop_zero] at this
  exact this
theorem SrcY.cutD {w : World} {ad : Option Addr} {n cap : Nat} {l : List Ey} (h : SrcY w (.slice ad n cap) l) (hn : n = l.length) (p : Nat) (hp : p ≤ n) : SrcY w (cutY ad p n cap) (l.drop p) := by
  have := h.cut p n hp (by omega)
  rw [List.take_of_length_le (by omega)] at this
  exact this
/-- Where a header stands, or would. -/
def plY : List Ey → Hd → Nat
  | [], _ => 0
  | x :: l, k => if val x.k < val k then plY l k + 1 else 0
theorem plY_le : ∀ (l : List Ey) (k : Hd), plY l k ≤ l.length
  | [], _ => Nat.le_refl _
  | x :: l, k => by
    unfold plY
    split
    · have := plY_le l k; simp; omega
    · simp
theorem plY_lt : ∀ (l : List Ey) (k : Hd) (i : Nat) (h : i < l.length), i < plY l k → val (l[i]'h).k < val k
  | x :: l, k, i, h, hi => by
    unfold plY at hi
    split at hi
    · rename_i h1
      match i with
      | 0 => exact h1
      | i + 1 => exact plY_lt l k i (by simpa using h) (by omega)
    · omega
theorem plY_ge : ∀ (l : List Ey) (k : Hd) (h : plY l k < l.length), ¬ val (l[plY l k]'h).k < val k
  | x :: l, k, h => by
    by_cases h1 : val x.k < val k
    · have e : plY (x :: l) k = plY l k + 1 := by show (if _ then _ else _) = _; rw [if_pos h1]
      have h2 := plY_ge l k (by rw [e] at h; simpa using h)
      intro h3
      apply h2
      have : (x :: l)[plY (x :: l) k]'h = l[plY l k]'(by rw [e] at h; simpa using h) := by simp only [e, List.getElem_cons_succ]
      rwa [this] at h3
    · have e : plY (x :: l) k = 0 := by show (if _ then _ else _) = _; rw [if_neg h1]
      have : (x :: l)[plY (x :: l) k]'h = x := by simp only [e, List.getElem_cons_zero]
      rw [this]; exact h1
/-- The place is the first whose header is not below. -/
theorem plY_is {l : List Ey} {k : Hd} {i : Nat} (hi : i ≤ l.length) (h1 : ∀ j (h : j < l.length), j < i → val (l[j]'h).k < val k) (h2 : ∀ h : i < l.length, ¬ val (l[i]'h).k < val k) : plY l k = i := by
  rcases Nat.lt_trichotomy (plY l k) i with h | h | h
  · exact absurd (h1 _ (by omega) h) (plY_ge l k (by omega))
  · exact h
  · exact absurd (plY_lt l k i (by have := plY_le l k; omega) h) (h2 (by have := plY_le l k; omega))
/-- What Find says. -/
def isY (l : List Ey) (k : Hd) : Bool := match l[plY l k]? with | some x => decide (val x.k = val k) | none => false
section
variable {m : Hd → Option Int} {D : List Ey} {k : Hd}
theorem Tells.at_some (h : Tells m D) (o : OkH k) {y : Int} (hm : m k = some y) : D[plY D k]? = some ⟨k, y⟩ := by
  obtain ⟨i, hi, e⟩ := List.mem_iff_getElem.1 ((h.mem ⟨k, y⟩).2 hm)
  have hp : plY D k = i := by
    refine plY_is (by omega) (fun j hj hji => ?_) (fun h0 => by rw [e]; exact Nat.lt_irrefl _)
    have := List.pairwise_iff_getElem.1 h.srt j i hj hi hji
    rw [e] at this; exact this
  rw [hp, List.getElem?_eq_getElem hi, e]
theorem Tells.at_none (h : Tells m D) (o : OkH k) (hm : m k = none) (x : Ey) (hx : D[plY D k]? = some x) : val k < val x.k := by
  obtain ⟨hi, e⟩ := List.getElem?_eq_some_iff.1 hx
  have h1 := plY_ge D k hi
  rw [e] at h1
  rcases Nat.lt_or_eq_of_le (Nat.le_of_not_lt h1) with h2 | h2
  · exact h2
  · have hmem : x ∈ D := List.mem_of_getElem? hx
    have hk := val_inj (h.ok x hmem) o h2.symm
    have := (h.mem x).1 hmem
    rw [hk, hm] at this; cases this
theorem Tells.is (h : Tells m D) (o : OkH k) : isY D k = (m k).isSome := by
  cases hm : m k with
  | some y => unfold isY; rw [h.at_some o hm]; simp
  | none =>
    unfold isY
    cases hx : D[plY D k]? with
    | none => rfl
    | some x => have := h.at_none o hm x hx; simp; omega
/-- An entry changed. -/
theorem Tells.set (h : Tells m D) (o : OkH k) {y : Int} (hm : (m k).isSome = true) : Tells (upd m k (some y)) (D.take (plY D k) ++ [⟨k, y⟩] ++ D.drop (plY D k + 1)) := by
  obtain ⟨y0, hy0⟩ := Option.isSome_iff_exists.1 hm
  obtain ⟨hi, e⟩ := List.getElem?_eq_some_iff.1 (h.at_some o hy0)
  have hD : D = D.take (plY D k) ++ (⟨k, y0⟩ :: D.drop (plY D k + 1)) := by rw [← e, List.getElem_cons_drop, List.take_append_drop]
  generalize D.take (plY D k) = u at *
  generalize D.drop (plY D k + 1) = v at *
  have hs := h.srt
  unfold Srt at hs
  have hk := h.ok
  have hM := h.mem
  clear e hi
  subst hD
  rw [List.pairwise_append] at hs
  obtain ⟨s1, s2, s3⟩ := hs
  rw [List.pairwise_cons] at s2
  refine ⟨?_, ?_, fun x => ?_⟩
  · unfold Srt
    rw [List.append_assoc, List.pairwise_append]
    refine ⟨s1, List.pairwise_cons.2 s2, fun a ha b hb => ?_⟩
    rcases List.mem_cons.1 hb with rfl | hb
    · exact s3 a ha ⟨k, y0⟩ (List.mem_cons_self ..)
    · exact s3 a ha b (List.mem_cons_of_mem _ hb)
  · intro x hx
    simp only [List.mem_append, List.mem_cons, List.not_mem_nil, or_false] at hx
    rcases hx with (hx | rfl) | hx
    · exact hk x (by simp [hx])
    · exact o
    · exact hk x (by simp [hx])
  · have hMx := hM x
    simp only [List.mem_append, List.mem_cons, List.not_mem_nil, or_false] at hMx ⊢
    unfold upd
    by_cases hxk : x.k = k
    · rw [if_pos hxk]
      have nu : x ∉ u := fun hx => by have := s3 x hx ⟨k, y0⟩ (List.mem_cons_self ..); rw [hxk] at this; exact Nat.lt_irrefl _ this
      have nv : x ∉ v := fun hx => by have := s2.1 x hx; rw [hxk] at this; exact Nat.lt_irrefl _ this
      simp only [nu, nv, false_or, or_false]
      constructor
      · intro hx; rw [hx]
      · intro hx; cases x; simp at hx hxk; rw [hx, hxk]
    · rw [if_neg hxk, ← hMx]
      have n1 : x ≠ ⟨k, y⟩ := fun hx => hxk (by rw [hx])
      have n0 : x ≠ ⟨k, y0⟩ := fun hx => hxk (by rw [hx])
      simp [n1, n0]
/-- An entry put in between. -/
theorem Tells.ins (h : Tells m D) (o : OkH k) {y : Int} (hm : m k = none) : Tells (upd m k (some y)) (D.take (plY D k) ++ [⟨k, y⟩] ++ D.drop (plY D k)) := by
  have hlo : ∀ x ∈ D.take (plY D k), val x.k < val k := fun x hx => by
    obtain ⟨i, hi, e⟩ := List.mem_iff_getElem.1 hx
    rw [List.length_take] at hi
    rw [← e, List.getElem_take]
    exact plY_lt D k i (by omega) (by omega)
  have hhi : ∀ x ∈ D.drop (plY D k), val k < val x.k := fun x hx => by
    obtain ⟨i, hi, e⟩ := List.mem_iff_getElem.1 hx
    rw [List.length_drop] at hi
    rw [List.getElem_drop] at e
    have h0 := h.at_none o hm _ (List.getElem?_eq_getElem (by omega : plY D k < D.length))
    cases i with
    | zero => rw [← e]; exact h0
    | succ i =>
      have := List.pairwise_iff_getElem.1 h.srt (plY D k) (plY D k + (i + 1)) (by omega) (by omega) (by omega)
      rw [e] at this; omega
  have hD : D = D.take (plY D k) ++ D.drop (plY D k) := (List.take_append_drop _ _).symm
  generalize D.take (plY D k) = u at *
  generalize D.drop (plY D k) = v at *
  have hs := h.srt
  unfold Srt at hs
  have hk := h.ok
  have hM := h.mem
  subst hD
  rw [List.pairwise_append] at hs
  obtain ⟨s1, s2, s3⟩ := hs
  refine ⟨?_, ?_, fun x => ?_⟩
  · unfold Srt
    rw [List.append_assoc, List.pairwise_append]
    refine ⟨s1, List.pairwise_cons.2 ⟨fun b hb => hhi b hb, s2⟩, fun a ha b hb => ?_⟩
    rcases List.mem_cons.1 hb with rfl | hb
    · exact hlo a ha
    · exact s3 a ha b hb
  · intro x hx
    simp only [List.mem_append, List.mem_cons, List.not_mem_nil, or_false] at hx
    rcases hx with (hx | rfl) | hx
    · exact hk x (by simp [hx])
    · exact o
    · exact hk x (by simp [hx])
  · have hMx := hM x
    simp only [List.mem_append, List.mem_cons, List.not_mem_nil, or_false] at hMx ⊢
    unfold upd
    by_cases hxk : x.k = k
    · rw [if_pos hxk]
      have nu : x ∉ u := fun hx => by have := hlo x hx; rw [hxk] at this; exact Nat.lt_irrefl _ this
      have nv : x ∉ v := fun hx => by have := hhi x hx; rw [hxk] at this; exact Nat.lt_irrefl _ this
      simp only [nu, nv, false_or, or_false]
      constructor
      · intro hx; rw [hx]
      · intro hx; cases x; simp at hx hxk; rw [hx, hxk]
    · rw [if_neg hxk, ← hMx]
      have n1 : x ≠ ⟨k, y⟩ := fun hx => hxk (by rw [hx])
      simp [n1]
/-- An entry taken out. -/
theorem Tells.out (h : Tells m D) (o : OkH k) (hm : (m k).isSome = true) : Tells (upd m k none) (D.take (plY D k) ++ D.drop (plY D k + 1)) := by
  obtain ⟨y0, hy0⟩ := Option.isSome_iff_exists.1 hm
  obtain ⟨hi, e⟩ := List.getElem?_eq_some_iff.1 (h.at_some o hy0)
  have hD : D = D.take (plY D k) ++ (⟨k, y0⟩ :: D.drop (plY D k + 1)) := by rw [← e, List.getElem_cons_drop, List.take_append_drop]
  generalize D.take (plY D k) = u at *
  generalize D.drop (plY D k + 1) = v at *
  have hs := h.srt
  unfold Srt at hs
  have hk := h.ok
  have hM := h.mem
  clear e hi
  subst hD
  rw [List.pairwise_append] at hs
  obtain ⟨s1, s2, s3⟩ := hs
  rw [List.pairwise_cons] at s2
  refine ⟨?_, ?_, fun x => ?_⟩
  · unfold Srt
    rw [List.pairwise_append]
    exact ⟨s1, s2.2, fun a ha b hb => s3 a ha b (List.mem_cons_of_mem _ hb)⟩
  · intro x hx
    simp only [List.mem_append] at hx
    rcases hx with hx | hx
    · exact hk x (by simp [hx])
    · exact hk x (by simp [hx])
  · have hMx := hM x
    simp only [List.mem_append, List.mem_cons] at hMx ⊢
    unfold upd
    by_cases hxk : x.k = k
    · rw [if_pos hxk]
      have nu : x ∉ u := fun hx => by have := s3 x hx ⟨k, y0⟩ (List.mem_cons_self ..); rw [hxk] at this; exact Nat.lt_irrefl _ this
      have nv : x ∉ v := fun hx => by have := s2.1 x hx; rw [hxk] at this; exact Nat.lt_irrefl _ this
      simp [nu, nv]
    · rw [if_neg hxk, ← hMx]
      have n0 : x ≠ ⟨k, y0⟩ := fun hx => hxk (by rw [hx])
      simp [n0]
theorem Tells.del_none (h : Tells m D) (hm : m k = none) : Tells (upd m k none) D := by
  have : upd m k none = m := by funext x; unfold upd; split; (rename_i e; rw [e, hm]); rfl
  rw [this]; exact h
theorem tells_nil : Tells (fun _ : Hd => (none : Option Int)) [] := ⟨List.Pairwise.nil, by simp, by simp⟩
end

end Go.Proofs.Ythfjdoenofkghaa
