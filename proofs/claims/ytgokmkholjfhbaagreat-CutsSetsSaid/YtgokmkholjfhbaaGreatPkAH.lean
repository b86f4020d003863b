/-
  PkAH: TbS PxB, one behind the other (tools/pack.py).
-/
import Derived.Test.YtgokmkholjfhbaaGreatPkAG
import Derived.Test.YtgokmkholjfhbaaGreatPkAB
import Derived.Deep.DeepCutAuto
import Derived.Test.YtgokmkholjfhbaaGreatPkAE
import Derived.Deep.RegionHeld3
import Derived.Deep.DrawnRows
set_option linter.unusedVariables false
set_option linter.unusedSimpArgs false
namespace Go.Proofs.YtgokmkholjfhbaaGreat
open Go.RowKit
def SrcU (w : World) (v : Value) (l : List Ru) : Prop :=
 ∃ (ad : Option Addr) (cap : Nat), v = .slice ad l.length cap ∧ (l.length ≤ cap ∧ (ad = none → cap = 0)) ∧ (0 < l.length → ∃ g off, ad = some ⟨g, off, none⟩ ∧ ∀ k (hk : k < l.length) j, j < 12 → w.cell? ⟨g, off + (k * 12 + j), none⟩ = (encU (l[k]'hk))[j]?)
theorem encU_some (R : Ru) {j : Nat} (h : j < 12) : ∃ v, (encU R)[j]? = some v := ⟨(encU R)[j]'(by simp [encU]; omega), List.getElem?_eq_getElem _⟩
theorem SrcU.keep {w w1 : World} {v : Value} {l : List Ru} (h : SrcU w v l) (hb : Below w.heap.size w w1) : SrcU w1 v l := by
 obtain ⟨ad, cap, rfl, hc, h2⟩ := h
 refine ⟨ad, cap, rfl, hc, fun h0 => ?_⟩
 obtain ⟨g, off, rfl, h3⟩ := h2 h0
 exact ⟨g, off, rfl, fun k hk j hj => by
  have := h3 k hk j hj
  obtain ⟨u, hu⟩ := encU_some (l[k]'hk) hj
  rw [hb.cell (World.block_lt_of_cell? w _ (this.trans hu))]; exact this⟩
theorem SrcU.stay {w w1 : World} {v : Value} {l : List Ru} (h : SrcU w v l) (hb : ∀ k, v.ownBlock = some k → k < w.heap.size → w1.heap[k]? = w.heap[k]?) : SrcU w1 v l := by
 obtain ⟨ad, cap, rfl, hc, h2⟩ := h
 refine ⟨ad, cap, rfl, hc, fun h0 => ?_⟩
 obtain ⟨g, off, rfl, h3⟩ := h2 h0
 exact ⟨g, off, rfl, fun k hk j hj => by
  have := h3 k hk j hj
  obtain ⟨u, hu⟩ := encU_some (l[k]'hk) hj
  have hlt := World.block_lt_of_cell? w _ (this.trans hu)
  rw [World.cell?_of_block (w := w) (a := ⟨g, off + (k * 12 + j), none⟩) (hb g rfl hlt)]; exact this⟩
theorem RowU.src {w : World} {b : Nat} {v : Value} {l : List Ru} (h : RowU w b v l) : SrcU w v l := by
 obtain ⟨ad, cap, hv, hc, h2⟩ := h.form
 refine ⟨ad, cap, hv, ⟨hc, fun e => ?_⟩, fun h0 => ?_⟩
 ·subst e
  rcases h.2 with ⟨hv', _⟩ | ⟨g, cap', cur, hv', _⟩
  ·rw [hv] at hv'; injection hv'
  ·rw [hv] at hv'; cases hv'
 obtain ⟨g, e, _, _, h3⟩ := h2 h0
 exact ⟨g, 0, e, fun k hk j hj => by rw [Nat.zero_add]; exact h3 k hk j hj⟩
theorem SrcU.flat {w : World} {g off n cap : Nat} {l : List Ru} (h : SrcU w (.slice (some ⟨g, off, none⟩) n cap) l) : ∀ j u, (flatU l)[j]? = some u → w.cell? ((⟨g, off, none⟩ : Addr).add j) = some u := by
 intro j u hu
 obtain ⟨ad, c, e, hc, h2⟩ := h
 cases e
 have hj : j < (flatU l).length := (List.getElem?_eq_some_iff.1 hu).1
 rw [flatU_length] at hj
 obtain ⟨g', off', e', h3⟩ := h2 (by omega)
 cases e'
 have hk : j / 12 < l.length := by omega
 have hm : j % 12 < 12 := Nat.mod_lt _ (by decide)
 have e1 : j / 12 * 12 + j % 12 = j := by omega
 have h4 := flatU_at l (j / 12) hk (j % 12) hm
 rw [e1] at h4
 have h5 := h3 (j / 12) hk (j % 12) hm
 rw [e1] at h5
 rw [Addr.add_lit, h5, ← h4]
 exact hu
theorem flatU_take (l : List Ru) (p : Nat) : (flatU l).take (p * 12) = flatU (l.take p) := by
 by_cases h : p ≤ l.length
 ·have e := flatU_append (l.take p) (l.drop p)
  rw [List.take_append_drop] at e
  rw [e]
  have hl : (flatU (l.take p)).length = p * 12 := by rw [flatU_length, List.length_take]; congr 1; omega
  rw [List.take_append_of_le_length (by omega), List.take_of_length_le (by omega)]
 ·rw [List.take_of_length_le (by rw [flatU_length]; omega), List.take_of_length_le (by omega)]
theorem flatU_drop (l : List Ru) (p : Nat) : (flatU l).drop (p * 12) = flatU (l.drop p) := by
 by_cases h : p ≤ l.length
 ·have e := flatU_append (l.take p) (l.drop p)
  rw [List.take_append_drop] at e
  rw [e]
  have hl : (flatU (l.take p)).length = p * 12 := by rw [flatU_length, List.length_take]; congr 1; omega
  rw [← hl, List.drop_left]
 ·rw [List.drop_eq_nil_of_le (by rw [flatU_length]; omega), List.drop_eq_nil_of_le (by omega)]; rfl
def cutU (ad : Option Addr) (l h cap : Nat) : Value := .slice (if cap = l then ad else ad.map (·.add (l * 12))) (h - l) (cap - l)
theorem cutU_zero (ad : Option Addr) (n cap : Nat) : cutU ad 0 n cap = .slice ad n cap := by
 unfold cutU
 cases ad with
 | none => simp
 | some a => obtain ⟨b, o, s⟩ := a; simp [Addr.add]
theorem sizeU (w : World) : (sizeOf 64).run Tryz.prog w = .ok 12 w := by
 obtain ⟨i0, hi, hz0, hz1, hz2⟩ := info_parts infoU
 simp [sizeOf, typeInfo, hi, hz1]
theorem elemU : Tryz.prog.elem 56 = 64 := by kernel_rfl
theorem underU : Tryz.prog.underlying 56 = some (.slice (Tryz.prog.elem 56)) := by rw [elemU]; exact Tryz.underlying56
theorem run_cut_l (w : World) (ad : Option Addr) (n cap l : Nat) (h1 : l ≤ n) : (Instr.sliceAt 56 (.slice ad n cap) (some (.int .i64 l)) none none).run Tryz.prog w = .ok (cutU ad l n cap) w := by
 rw [run_sliceAt_slice _ _ _ _ _ _ underU, run_slice_l w 56 ad n cap underU .i64 l (by omega) (by omega), elemU, sizeU]
 simp [Result.andThen, sliced, cutU]
theorem run_cut_h (w : World) (ad : Option Addr) (n cap h : Nat) (h2 : h ≤ cap) : (Instr.sliceAt 56 (.slice ad n cap) none (some (.int .i64 h)) none).run Tryz.prog w = .ok (cutU ad 0 h cap) w := by
 rw [run_sliceAt_slice _ _ _ _ _ _ underU, run_slice_h w 56 ad n cap underU .i64 h (by omega) (by omega), elemU, sizeU]
 simp [Result.andThen, sliced, cutU]
theorem SrcU.cut {w : World} {ad : Option Addr} {n cap : Nat} {l : List Ru} (h : SrcU w (.slice ad n cap) l) (lo hi : Nat) (h1 : lo ≤ hi) (h2 : hi ≤ l.length) : SrcU w (cutU ad lo hi cap) ((l.take hi).drop lo) := by
 obtain ⟨ad', c, e, hc, h3⟩ := h
 cases e
 have hlen : ((l.take hi).drop lo).length = hi - lo := by rw [List.length_drop, List.length_take]; omega
 refine ⟨(if cap = lo then ad else ad.map (·.add (lo * 12))), cap - lo, ?_, ?_, fun h0 => ?_⟩
 ·unfold cutU; rw [hlen]
 ·refine ⟨by rw [hlen]; omega, fun e => ?_⟩
  split at e
  ·omega
  ·cases ad with
   | none => have := hc.2 rfl; omega
   | some a => cases e
 ·rw [hlen] at h0
  obtain ⟨g, off, rfl, h4⟩ := h3 (by omega)
  rw [if_neg (by omega)]
  refine ⟨g, off + lo * 12, by simp [Addr.add], fun k hk j hj => ?_⟩
  rw [hlen] at hk
  have := h4 (lo + k) (by omega) j hj
  rw [show off + lo * 12 + (k * 12 + j) = off + ((lo + k) * 12 + j) by omega, this]
  congr 2
  simp
theorem RowU.some {w : World} {b : Nat} {v : Value} {l : List Ru} (h : RowU w b v l) (h0 : 0 < l.length) : ∃ g cap, v = .slice (.some ⟨g, 0, none⟩) l.length cap ∧ l.length ≤ cap ∧ b ≤ g ∧ g < w.heap.size := by
 obtain ⟨ad, cap, hv, hc, h2⟩ := h.form
 obtain ⟨g, rfl, hb, hg, _⟩ := h2 h0
 exact ⟨g, cap, hv, hc, hb, hg⟩
theorem RowU.over {w w' : World} {b g n cap : Nat} {l : List Ru} (h : RowU w b (.slice (.some ⟨g, 0, none⟩) n cap) l) (p : Nat) (k : List Ru) (hf : p + k.length ≤ n)
  (hw : ∀ cur, w.heap[g]? = .some (.cells cur 64 (0, 0)) → w'.heap[g]? = .some (.cells (cur.toList.take (p * 12) ++ flatU k ++ cur.toList.drop (p * 12 + (flatU k).length)).toArray 64 (0, 0))) :
  RowU w' b (.slice (.some ⟨g, 0, none⟩) n cap) (l.take p ++ k ++ l.drop (p + k.length)) := by
 have hn : l.length = n := by
  rcases h.2 with ⟨hv, _⟩ | ⟨g', cap', cur, hv, _⟩
  ·cases hv
  ·cases hv; rfl
 subst hn
 have hlen : (l.take p ++ k ++ l.drop (p + k.length)).length = l.length := by simp; omega
 rcases h.2 with ⟨hv, _⟩ | ⟨g', cap', cur, hv, hb, hg, hc, hm, hs, ht⟩
 ·cases hv
 ·cases hv
  refine ⟨by rw [hlen, flatU_length, hlen], .inr ⟨g, cap, _, by rw [hlen], hb, hw cur hg, by rw [hlen]; exact hc, hm, ?_, ?_⟩⟩
  ·rw [flatU_length]
   simp only [List.size_toArray, List.length_append, List.length_take, List.length_drop, Array.length_toList, flatU_length]
   omega
  ·rw [hlen]
   have e1 : cur.toList.take (p * 12) = flatU (l.take p) := by
    rw [← flatU_take, ← ht, List.take_take]; congr 1; omega
   have e2 : (cur.toList.drop (p * 12 + (flatU k).length)).take (l.length * 12 - (p * 12 + (flatU k).length)) = flatU (l.drop (p + k.length)) := by
    rw [← flatU_drop, ← ht, List.drop_take, flatU_length]
    rw [show p * 12 + k.length * 12 = (p + k.length) * 12 by omega]
   have l1 : (flatU (l.take p)).length = p * 12 := by rw [flatU_length, List.length_take]; omega
   rw [e1, flatU_append, flatU_append, ← e2]
   have l2 := flatU_length k
   rw [List.take_append, List.take_of_length_le (by rw [List.length_append, l1, l2]; omega)]
   congr 2
   rw [List.length_append, l1]
theorem run_copyU (w : World) (ty : TypeId) (b g n cap : Nat) (l : List Ru) (hr : RowU w b (.slice (.some ⟨g, 0, none⟩) n cap) l) (p : Nat) (hp : p ≤ n) (u : Value) (k : List Ru) (hs : SrcU w u k) :
  ∃ w', (Builtin.copy_ #[56, 56] ty #[cutU (.some ⟨g, 0, none⟩) p n cap, u]).run Tryz.prog w = .ok (goInt (Nat.min k.length (n - p))) w' ∧
   RowU w' b (.slice (.some ⟨g, 0, none⟩) n cap) (l.take p ++ k.take (n - p) ++ l.drop (p + (k.take (n - p)).length)) ∧ w.grownBy w' (.some g) := by
 obtain ⟨i0, hi, hz0, hz1, hz2⟩ := info_parts infoU
 have hn : l.length = n := by
  rcases hr.2 with ⟨hv, _⟩ | ⟨g', cap', cur, hv, _⟩
  ·cases hv
  ·cases hv; rfl
 have hsu := hs
 obtain ⟨ad, c, rfl, hc, h2⟩ := hs
 have hmin : (k.take (n - p)).length = Nat.min k.length (n - p) := by rw [List.length_take, Nat.min_comm]
 obtain ⟨cur, hg, hcs⟩ : ∃ cur, w.heap[g]? = .some (.cells cur 64 (0, 0)) ∧ cur.size = cap * 12 ∧ n ≤ cap := by
  rcases hr.2 with ⟨hv, _⟩ | ⟨g', cap', cur, hv, hb, hg, hc, hm, hs, ht⟩
  ·cases hv
  ·cases hv; exact ⟨cur, hg, hs, by omega⟩
 by_cases h0 : 0 < Nat.min k.length (n - p)
 ·have h0k : 0 < k.length := by have := Nat.min_le_left k.length (n - p); simp only [Nat.min_def] at *; split at h0 <;> omega
  have h0n : 0 < n - p := by simp only [Nat.min_def] at h0; split at h0 <;> omega
  obtain ⟨g2, off, rfl, h3⟩ := h2 h0k
  have hfl := hsu.flat
  have hl := run_loadCells_list (P := Tryz.prog) w ⟨g2, off, none⟩ (flatU (k.take (n - p))) (fun j v hv => hfl j v (by
   rw [← flatU_take] at hv
   have := List.getElem?_take (l := flatU k) (i := (n - p) * 12) (j := j)
   rw [this] at hv
   split at hv
   ·exact hv
   ·cases hv))
  rw [flatU_length, hmin] at hl
  have hst := run_storeCells_at Tryz.prog g (p * 12) 64 (flatU (k.take (n - p))) 0 cur w hg (by rw [flatU_length, hmin]; simp only [Nat.min_def]; split <;> omega) (flatU_one _)
  refine ⟨w.setRow g (cur.toList.take (p * 12 + 0) ++ flatU (k.take (n - p)) ++ cur.toList.drop (p * 12 + 0 + (flatU (k.take (n - p))).length)).toArray, ?_, hr.over p (k.take (n - p)) (by rw [hmin]; simp only [Nat.min_def]; split <;> omega) (fun cur' hg' => ?_), ⟨rfl, rfl, rfl, by simp, fun x _ hx => setRow_other w g x _ (fun e => hx (by simp [e]))⟩⟩
  ·unfold cutU
   rw [if_neg (by omega)]
   simp [Builtin.copy_, Tryz.runUnderlying56, Builtin.lenOf, Builtin.firstCells, sizeOf, typeInfo, hi, hz1, hl, Addr.add_lit]
   simp at hst
   rw [hst]
   simp [Result.andThen]
  ·rw [hg] at hg'
   cases hg'
   have := setRow_heap w g cur (cur.toList.take (p * 12 + 0) ++ flatU (k.take (n - p)) ++ cur.toList.drop (p * 12 + 0 + (flatU (k.take (n - p))).length)).toArray _ _ hg
   simpa using this
 ·have e0 : Nat.min k.length (n - p) = 0 := by omega
  have ek : k.take (n - p) = [] := List.eq_nil_of_length_eq_zero (by rw [hmin]; exact e0)
  refine ⟨w, ?_, ?_, ⟨rfl, rfl, rfl, Nat.le_refl _, fun _ _ _ => rfl⟩⟩
  ·have hl : ∀ (x : Addr), (loadCells x 0).run Tryz.prog w = .ok #[] w := fun x => by simpa using run_loadCells_list (P := Tryz.prog) w x [] (by simp)
   unfold cutU
   rw [e0]
   have e0' : min k.length (n - p) = 0 := e0
   cases ad <;> (split <;> simp [Builtin.copy_, Tryz.runUnderlying56, Builtin.lenOf, Builtin.firstCells, sizeOf, typeInfo, hi, hz1, storeCells, hl, e0'])
  ·rw [ek]; simpa using hr
theorem run_appendSU (w : World) (ty : TypeId) (b : Nat) (v : Value) (l : List Ru) (h : RowU w b v l) (u : Value) (k : List Ru) (hk : SrcU w u k) (hb : b ≤ w.heap.size) (hsz : l.length + k.length ≤ 4294967296) :
  ∃ v' w', (Builtin.append_ #[56, 56] ty #[v, u]).run Tryz.prog w = .ok v' w' ∧ RowU w' b v' (l ++ k) ∧ w.grownBy w' v.ownBlock ∧ (v'.ownBlock = v.ownBlock ∨ v'.ownBlock = .some w.heap.size) := by
 obtain ⟨i0, hi, hz0, hz1, hz2⟩ := info_parts infoU
 have hmx : l.length + k.length ≤ maxLen := by unfold maxLen; omega
 have hk' := hk
 obtain ⟨ad, c, rfl, hc, h2⟩ := hk
 cases ad with
 | none =>
  have h0 : k.length = 0 := by have := hc.1; have := hc.2 rfl; omega
  have hc0 : c = 0 := hc.2 rfl
  have hr := run_append_owned_none (P := Tryz.prog) (w := w) b 56 ty 64 i0 12 Tryz.underlying56 hi v l.length (flatU l) h
  rw [h0, hc0]
  refine ⟨v, w, hr, ?_, ⟨rfl, rfl, rfl, Nat.le_refl _, fun _ _ _ => rfl⟩, .inl rfl⟩
  rw [List.eq_nil_of_length_eq_zero h0, List.append_nil]
  exact h
 | some a =>
  have hfl : ∀ j x, (flatU k)[j]? = .some x → w.cell? (a.add j) = .some x := by
   by_cases h0 : 0 < k.length
   ·obtain ⟨g, off, e, _⟩ := h2 h0
    cases e
    exact hk'.flat
   ·rw [List.eq_nil_of_length_eq_zero (by omega : k.length = 0)]
    intro j x hx
    simp [flatU] at hx
  obtain ⟨v', w', hr, ho, hgr, _, hat⟩ := run_append_own_at (P := Tryz.prog) w b 56 ty 64 i0 (.agg #[.int .i64 0, .int .u32 0, .int .i64 0, .int .u32 0, .int .i64 0, .int .u16 0, .int .u16 0, .int .u16 0, .int .u16 0, .int .u8 0, .int .u8 0, .int .i64 0]) 12 64 Tryz.underlying56 hi hz0 hz1 hz2 rfl (by decide) v l.length (flatU l) h a k.length c (flatU k) (flatU_length k) hfl (flatU_one k) hmx (by omega) hb
  refine ⟨v', w', hr, ?_, hgr, hat⟩
  unfold RowU
  rw [List.length_append, flatU_append]
  exact ho
theorem wpList_appendSU {ops : Array Oper} {rest : List Oper} {o : Oper} {a : Act} {w : World} {Q : Exit → Act → World → Prop} (hgd : o.guard = none) (s x : Operand)
  (ho : o.op = .call { callee := .builtin .append, args := #[s, x], argTypes := #[56, 56] })
  (b : Nat) (v : Value) (l : List Ru) (hs : a.eval s = v) (h : RowU w b v l) (u : Value) (k : List Ru) (hx : a.eval x = u) (hk : SrcU w u k)
  (hb : b ≤ w.heap.size) (hsz : l.length + k.length ≤ 4294967296)
  (hK : ∀ v' w', RowU w' b v' (l ++ k) → w.grownBy w' v.ownBlock → (v'.ownBlock = v.ownBlock ∨ v'.ownBlock = .some w.heap.size) → wpList Tryz.prog ops Q rest (a.put o.dst v') w') : wpList Tryz.prog ops Q (o :: rest) a w := by
 refine wpList_plain hgd fun K hK' => ?_
 obtain ⟨v', w', hr, h2, h3, h4⟩ := run_appendSU w o.type b v l h u k hk hb hsz
 unfold Oper.wp execOp
 simp only [ho, resolve, invoke, builtin, Sem.run_bind, Sem.run_pure, Result.andThen_ok, List.map_toArray, List.map_cons, List.map_nil, hs, hx, hr]
 exact hK' _ _ (hK v' w' h2 h3 h4)
theorem wp_copyU {o : Oper} {a : Act} {w : World} {K : Act → World → Prop} {Q : Exit → Act → World → Prop} (s x : Operand)
  (ho : o.op = .call { callee := .builtin .copy, args := #[s, x], argTypes := #[56, 56] })
  (b g n cap : Nat) (l : List Ru) (hr : RowU w b (.slice (.some ⟨g, 0, none⟩) n cap) l) (p : Nat) (hp : p ≤ n) (hd : a.eval s = cutU (.some ⟨g, 0, none⟩) p n cap) (u : Value) (k : List Ru) (hx : a.eval x = u) (hs : SrcU w u k)
  (hK : ∀ w', RowU w' b (.slice (.some ⟨g, 0, none⟩) n cap) (l.take p ++ k.take (n - p) ++ l.drop (p + (k.take (n - p)).length)) → w.grownBy w' (.some g) → K (a.put o.dst (goInt (Nat.min k.length (n - p)))) w') : o.wp Tryz.prog a w K Q := by
 obtain ⟨w', hrun, h2, h3⟩ := run_copyU w o.type b g n cap l hr p hp u k hs
 unfold Oper.wp execOp
 simp only [ho, resolve, invoke, builtin, Sem.run_bind, Sem.run_pure, Result.andThen_ok, List.map_toArray, List.map_cons, List.map_nil, hd, hx, hrun]
 exact hK w' h2 h3
end Go.Proofs.YtgokmkholjfhbaaGreat
namespace Go.Proofs.YtgokmkholjfhbaaGreat.Pf
open Go.RowKit
attribute [local go_sem ↓] Go.wp_at_zero Go.wp_at_succ
theorem run_any (a : Nat) (n : Int) (w : World) (ha : a < 4294967296) :
  Calls Tryz.prog 112 #[.agg #[.int .u32 a, .int .i64 n]] w fun e w' => e = .returned (.tuple #[.agg #[.int .u32 (rL a n : Int), .int .u32 (rH a n : Int)], .int .i64 (chk a n)]) ∧ Below w.heap.size w w' := by
 by_cases h : chk a n = 0
 ·obtain ⟨m, rfl, hn, h0⟩ := chk_ok h
  rw [show rL a m = a by simp [rL, h], show rH a m = a + (bk m - 1) by simp [rH, h]]
  have hor := or_lw a m ha h0
  clear h0
  go_enter Tryz.func112, Tryz.ntmps112
  go_wp2_with (go_at_call 67; refine (check_any a m _ ha).mono ?_; rintro e w1 ⟨rfl, hb1⟩; obtain ⟨hc1, hf1⟩ := bcell hb1; have hz1 := hb1.size; (try simp at hz1); (try (have hl10 : w.heap.size < w1.heap.size := (by omega))); (try (have hl11 : w.heap.size + 1 < w1.heap.size := (by omega))); (try (have hl12 : w.heap.size + 1 + 1 < w1.heap.size := (by omega))); (try (have hl13 : w.heap.size + 1 + 1 + 1 < w1.heap.size := (by omega))))
  have k0 : w1.cell? ⟨w.heap.size, 0, none⟩ = some (.int .u32 a) := by rw [hc1 _ _ (by first | omega | (simp <;> omega))]; simp [go_sem]
  have k1 : w1.cell? ⟨w.heap.size, 1, none⟩ = some (.int .i64 m) := by rw [hc1 _ _ (by first | omega | (simp <;> omega))]; simp [go_sem]
  go_region_held3 (fun w' => w'.cell? ⟨w.heap.size, 0, none⟩ = some (.int .u32 a) ∧ w'.cell? ⟨w.heap.size, 1, none⟩ = some (.int .i64 m)) (go_keep) (first | (go_at_call 105; refine (beyond_any m _ hn).mono ?_; rintro e w' ⟨rfl, hw⟩; obtain rfl := hw.symm; clear hw))
  go_wp2
  exact bodyPost_ret (v := .tuple #[.agg #[.int .u32 a, .int .u32 ((a + (bk m - 1) : Nat) : Int)], .int .i64 (chk a m)]) (by simp [results, Tryz.results112, go_sem, hc1, hf1, h]) rfl ⟨rfl, belA⟩
 ·rw [show (rL a n : Int) = 0 by simp [rL, h], show (rH a n : Int) = 0 by simp [rH, h]]
  go_enter Tryz.func112, Tryz.ntmps112
  go_wp2_with (go_at_call 67; refine (check_any a n _ ha).mono ?_; rintro e w1 ⟨rfl, hb1⟩; obtain ⟨hc1, hf1⟩ := bcell hb1; have hz1 := hb1.size; (try simp at hz1); (try (have hl10 : w.heap.size < w1.heap.size := (by omega))); (try (have hl11 : w.heap.size + 1 < w1.heap.size := (by omega))); (try (have hl12 : w.heap.size + 1 + 1 < w1.heap.size := (by omega))); (try (have hl13 : w.heap.size + 1 + 1 + 1 < w1.heap.size := (by omega))))
  exact bodyPost_ret (v := .tuple #[.agg #[.int .u32 0, .int .u32 0], .int .i64 (chk a n)]) (by simp [results, Tryz.results112, go_sem, hc1, hf1]) rfl ⟨rfl, belA⟩
theorem has_any (a : Nat) (n : Int) (x : Nat) (w : World) (ha : a < 4294967296) (hx : x < 4294967296) :
  Calls Tryz.prog 52 #[.agg #[.int .u32 a, .int .i64 n], .int .u32 x] w fun e w' => e = .returned (.bool (hasB a n x)) ∧ Below w.heap.size w w' := by
 by_cases h : chk a n = 0
 ·obtain ⟨m, rfl, hn, h0⟩ := chk_ok h
  rw [hasB_in h]
  clear h0
  by_cases hxx : ct x m = a
  ·have e1 : decide (ct x m = a) = true := decide_eq_true hxx
   rw [e1]
   clear e1
   go_enter Tryz.func52, Tryz.ntmps52
   go_wp2
   have kne : Nonempty (Kin (w.alloc (.cells #[.int .u32 a, .int .i64 m] 58))) := ⟨⟨_, Below.refl _ _⟩⟩
   have kc0 : ∀ y : Kin (w.alloc (.cells #[.int .u32 a, .int .i64 m] 58)), y.val.cell? ⟨w.heap.size, 0, none⟩ = some (.int .u32 a) := kcL
   have kc1 : ∀ y : Kin (w.alloc (.cells #[.int .u32 a, .int .i64 m] 58)), y.val.cell? ⟨w.heap.size, 1, none⟩ = some (.int .i64 m) := kcL
   refine wp_region_kin (w.alloc (.cells #[.int .u32 a, .int .i64 m] 58)) (Below.refl _ _) (by kernel_rfl) (by kernel_rfl) ?_
   repeat (go_big_quiet_step (first | (go_at_call 67; exact kin_call (check_any a m _ ha)) | (go_at_call 68; exact kin_call (first_any x m _ hx hn))))
   refine wpQuiet_nil ?_
   rintro wq ⟨⟨xq, hxq⟩, hyq⟩
   have hq : Below (w.alloc (.cells #[.int .u32 a, .int .i64 m] 58)).heap.size (w.alloc (.cells #[.int .u32 a, .int .i64 m] 58)) wq := by rw [hyq]; exact hxq
   clear hyq hxq xq
   clear kne kc0 kc1
   obtain ⟨hcq, hfq⟩ := bcell hq
   have hzq := hq.size
   try simp at hzq
   go_wp2
   go_ret
   exact ⟨rfl, belA⟩
  ·have e1 : decide (ct x m = a) = false := decide_eq_false hxx
   rw [e1]
   have e2 : ((ct x m : Int) == (a : Int)) = false := by rw [beq_eq_false_iff_ne]; omega
   clear e1
   go_enter Tryz.func52, Tryz.ntmps52
   go_wp2
   have kne : Nonempty (Kin (w.alloc (.cells #[.int .u32 a, .int .i64 m] 58))) := ⟨⟨_, Below.refl _ _⟩⟩
   have kc0 : ∀ y : Kin (w.alloc (.cells #[.int .u32 a, .int .i64 m] 58)), y.val.cell? ⟨w.heap.size, 0, none⟩ = some (.int .u32 a) := kcL
   have kc1 : ∀ y : Kin (w.alloc (.cells #[.int .u32 a, .int .i64 m] 58)), y.val.cell? ⟨w.heap.size, 1, none⟩ = some (.int .i64 m) := kcL
   refine wp_region_kin (w.alloc (.cells #[.int .u32 a, .int .i64 m] 58)) (Below.refl _ _) (by kernel_rfl) (by kernel_rfl) ?_
   repeat (go_big_quiet_step (first | (go_at_call 67; exact kin_call (check_any a m _ ha)) | (go_at_call 68; exact kin_call (first_any x m _ hx hn))))
   refine wpQuiet_nil ?_
   rintro wq ⟨⟨xq, hxq⟩, hyq⟩
   have hq : Below (w.alloc (.cells #[.int .u32 a, .int .i64 m] 58)).heap.size (w.alloc (.cells #[.int .u32 a, .int .i64 m] 58)) wq := by rw [hyq]; exact hxq
   clear hyq hxq xq
   clear kne kc0 kc1
   obtain ⟨hcq, hfq⟩ := bcell hq
   have hzq := hq.size
   try simp at hzq
   go_wp2
   go_ret
   exact ⟨rfl, belA⟩
 ·rw [hasB_no h]
  have h' : (chk a n == 0) = false := by simpa using h
  go_enter Tryz.func52, Tryz.ntmps52
  go_wp2
  have kne : Nonempty (Kin (w.alloc (.cells #[.int .u32 a, .int .i64 n] 58))) := ⟨⟨_, Below.refl _ _⟩⟩
  have kc0 : ∀ y : Kin (w.alloc (.cells #[.int .u32 a, .int .i64 n] 58)), y.val.cell? ⟨w.heap.size, 0, none⟩ = some (.int .u32 a) := kcL
  have kc1 : ∀ y : Kin (w.alloc (.cells #[.int .u32 a, .int .i64 n] 58)), y.val.cell? ⟨w.heap.size, 1, none⟩ = some (.int .i64 n) := kcL
  refine wp_region_kin (w.alloc (.cells #[.int .u32 a, .int .i64 n] 58)) (Below.refl _ _) (by kernel_rfl) (by kernel_rfl) ?_
  repeat (go_big_quiet_step ((go_at_call 67; exact kin_call (check_any a n _ ha))))
  refine wpQuiet_nil ?_
  rintro wq ⟨⟨xq, hxq⟩, hyq⟩
  have hq : Below (w.alloc (.cells #[.int .u32 a, .int .i64 n] 58)).heap.size (w.alloc (.cells #[.int .u32 a, .int .i64 n] 58)) wq := by rw [hyq]; exact hxq
  clear hyq hxq xq
  clear kne kc0 kc1
  obtain ⟨hcq, hfq⟩ := bcell hq
  have hzq := hq.size
  try simp at hzq
  go_wp2
  go_ret
  exact ⟨rfl, belA⟩
end Go.Proofs.YtgokmkholjfhbaaGreat.Pf
