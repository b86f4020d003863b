/-
  Lists of bytes in memory: read, owned, written, appended to.
-/
import Derived.Test.YthfjdoenofkghaaProg
import Derived.Test.YthfjdoenofkghaaHdPlain
import Derived.Test.YthfjdoenofkghaaPxKin
import Derived.Maps.AppendAt
import Derived.OwnWalk
import Derived.Laws.BitsAllLaws
namespace Go.Proofs.Ythfjdoenofkghaa
open Go.RowKit
set_option linter.unusedVariables false
set_option linter.unusedSimpArgs false

/-- The slice v of w reads as the list of bytes. -/
def SrcB (w : World) (v : Value) (l : List Nat) : Prop :=
  ∃ (ad : Option Addr) (cap : Nat), v = .slice ad l.length cap ∧ l.length ≤ cap ∧ (0 < l.length → ∃ g off, ad = some ⟨g, off, none⟩ ∧ ∀ k (hk : k < l.length), w.cell? ⟨g, off + k, none⟩ = some (.int .u8 ((l[k]'hk : Nat) : Int)))
theorem SrcB.keep {w w1 : World} {v : Value} {l : List Nat} (h : SrcB w v l) (hb : Below w.heap.size w w1) : SrcB w1 v l := by
  obtain ⟨ad, cap, rfl, hc, h2⟩ := h
  refine ⟨ad, cap, rfl, hc, fun h0 => ?_⟩
  obtain ⟨g, off, rfl, h3⟩ := h2 h0
  exact ⟨g, off, rfl, fun k hk => by
    have := h3 k hk
    rw [hb.cell (World.block_lt_of_cell? w _ this)]; exact this⟩
def flatB (l : List Nat) : List Value := l.map fun p : Nat => Value.int .u8 ((p : Nat) : Int)
theorem flatB_length (l : List Nat) : (flatB l).length = l.length * 1 := by unfold flatB; simp
theorem flatB_append (l k : List Nat) : flatB (l ++ k) = flatB l ++ flatB k := by unfold flatB; simp
theorem flatB_one (l : List Nat) : ∀ u ∈ flatB l, u.oneCell' = true := by
  intro u hu
  unfold flatB at hu
  rw [List.mem_map] at hu
  obtain ⟨p, _, rfl⟩ := hu
  rfl
theorem flatB_at (l : List Nat) (i : Nat) (h : i < l.length) : (flatB l)[i]? = some (.int .u8 ((l[i]'h : Nat) : Int)) := by
  unfold flatB; simp [h]
theorem info_u8 : (Try.prog.info? 5).map (fun i => (i.zero, i.size, i.bytes)) = some (some (.int .u8 0), 1, 1) := by kernel_rfl

/-- The row v of w holds the bytes. -/
def RowB (w : World) (base : Nat) (v : Value) (l : List Nat) : Prop := ∃ ty : TypeId, w.ownsRow base ty 1 v l.length (flatB l)
theorem RowB.base {w : World} {b b' : Nat} {v : Value} {l : List Nat} (h : RowB w b v l) (hb : b' ≤ b) : RowB w b' v l := by
  obtain ⟨ty, h⟩ := h
  refine ⟨ty, h.1, ?_⟩
  rcases h.2 with h2 | ⟨g, cap, cur, hv, hg, r⟩
  · exact .inl h2
  · exact .inr ⟨g, cap, cur, hv, by omega, r⟩
theorem RowB.on {w w1 : World} {b : Nat} {v : Value} {l : List Nat} (h : RowB w b v l) (hb : Below w.heap.size w w1) : RowB w1 b v l := by
  obtain ⟨ty, h⟩ := h
  refine ⟨ty, h.1, ?_⟩
  rcases h.2 with h2 | ⟨g, cap, cur, hv, hg, hh, r⟩
  · exact .inl h2
  · exact .inr ⟨g, cap, cur, hv, hg, by rw [hb.block g (Array.getElem?_eq_some_iff.1 hh).1]; exact hh, r⟩
theorem RowB.alloc {w : World} {b : Nat} {v : Value} {l : List Nat} (h : RowB w b v l) (o : Obj) : RowB (w.alloc o) b v l := by
  obtain ⟨ty, h⟩ := h
  exact ⟨ty, World.ownsRow.alloc h o⟩
theorem RowB.nil (w : World) (b : Nat) : RowB w b (.slice none 0 0) [] := ⟨0, World.ownsRow_nil w b _ _⟩
theorem RowB.one (w : World) (b : Nat) {x : Int} (a : Nat) {B : Nat} (hB : B = w.heap.size) (hx : x = (a : Int)) (hb : b ≤ w.heap.size) : RowB (w.alloc (.cells #[.int .u8 x] 5)) b (.slice (some ⟨B, 0, none⟩) 1 1) [a] := by
  subst hx hB
  exact ⟨_, World.ownsRow_lit w #[.int .u8 a] 1 hb (by decide) rfl⟩
theorem RowB.lt {w : World} {b : Nat} {v : Value} {l : List Nat} (h : RowB w b v l) : ∀ k, v.ownBlock = some k → b ≤ k ∧ k < w.heap.size := by
  obtain ⟨ty, h⟩ := h
  exact World.ownsRow.lt h
theorem RowB.kept {w w' : World} {b : Nat} {v : Value} {l : List Nat} {row : Option Nat} (h : RowB w b v l) (hg : w.grownBy w' row) (hne : v.ownBlock = none ∨ v.ownBlock ≠ row) : RowB w' b v l := by
  obtain ⟨ty, h⟩ := h
  exact ⟨ty, World.ownsRow.kept h hg hne⟩
theorem RowB.src {w : World} {b : Nat} {v : Value} {l : List Nat} (h : RowB w b v l) : SrcB w v l := by
  obtain ⟨ty, h⟩ := h
  rcases h.2 with ⟨hv, hn⟩ | ⟨g, cap, cur, hv, hb, hg, hnc, r⟩
  · exact ⟨none, 0, by rw [hv, hn], by omega, fun h0 => by omega⟩
  · subst hv
    refine ⟨_, cap, rfl, hnc, fun _ => ⟨g, 0, rfl, fun j hj => ?_⟩⟩
    have := World.ownsRow.cells h (g := g) rfl j _ (flatB_at l j hj)
    rwa [Addr.add_lit] at this
/-- One owned row behind another. -/
theorem run_append_bytes (w : World) (ty : TypeId) (b : Nat) (v : Value) (l : List Nat) (h : RowB w b v l) (c : Nat) (u : Value) (k : List Nat) (hk : RowB w c u k)
    (hb : b ≤ w.heap.size) (hsz : l.length + k.length ≤ 4294967296) :
    ∃ v' w', (Builtin.append_ #[91, 91] ty #[v, u]).run Try.prog w = .ok v' w' ∧ RowB w' b v' (l ++ k) ∧ w.grownBy w' v.ownBlock := by
  obtain ⟨i0, hi, hz0, hz1, hz2⟩ := info_parts info_u8
  have hmx : l.length + k.length ≤ maxLen := by unfold maxLen; omega
  obtain ⟨t1, h⟩ := h
  obtain ⟨t2, hk⟩ := hk
  have last : ∀ (v' : Value) (w' : World) (t3 : TypeId), w'.ownsRow b t3 1 v' (l.length + k.length) (flatB l ++ flatB k) → RowB w' b v' (l ++ k) := fun v' w' t3 h3 => ⟨t3, by rw [List.length_append, flatB_append]; exact h3⟩
  rcases hk.2 with ⟨rfl, hk0⟩ | ⟨g, cap, cur, rfl, hg, hh, hnc, hcm, hcs, htk⟩
  · have hne : k = [] := List.eq_nil_of_length_eq_zero hk0
    subst hne
    rcases h.2 with ⟨rfl, hl0⟩ | ⟨g1, cap1, cur1, rfl, hg1, hh1, hnc1, hcm1, hcs1, htk1⟩
    · refine ⟨.slice none 0 0, w, ?_, ⟨t1, by rw [List.append_nil]; exact h⟩, ⟨rfl, rfl, rfl, Nat.le_refl _, fun _ _ _ => rfl⟩⟩
      simp [Builtin.append_, run_underlying Try.underlying91, sizeOf, typeInfo, hi, Builtin.lenOf, Builtin.firstCells, loadCells, loadCellsFrom]
    · refine ⟨_, w, ?_, ⟨t1, by rw [List.append_nil]; exact h⟩, ⟨rfl, rfl, rfl, Nat.le_refl _, fun _ _ _ => rfl⟩⟩
      simp [Builtin.append_, run_underlying Try.underlying91, sizeOf, typeInfo, hi, Builtin.lenOf, Builtin.firstCells, loadCells, loadCellsFrom, hnc1, storeCells]
  · have hn := World.ownsRow.cells hk (g := g) rfl
    rcases h.2 with ⟨rfl, hl0⟩ | ⟨g1, cap1, cur1, rfl, hg1, hh1, hnc1, hcm1, hcs1, htk1⟩
    · have hne : l = [] := List.eq_nil_of_length_eq_zero hl0
      subst hne
      obtain ⟨v', w', hr, ho, hgr, _⟩ := run_append_own (P := Try.prog) w b 91 ty 5 i0 (.int .u8 0) 1 1 Try.underlying91 hi hz0 hz1 hz2 rfl (by decide) (.slice none 0 0) 0 [] (World.ownsRow_nil w b _ _) ⟨g, 0, none⟩ k.length cap (flatB k) (flatB_length k) hn (flatB_one k) (by simpa using hmx) (by simp at hsz; omega) hb
      exact ⟨v', w', hr, last _ _ 5 (by simpa [flatB] using ho), hgr⟩
    · by_cases hroom : l.length + k.length ≤ cap1
      · have hfit : l.length * i0.size + (flatB k).length ≤ cur1.size := by rw [hz1, flatB_length, hcs1]; omega
        have hf := run_firstCells_some (P := Try.prog) w i0.size k.length ⟨g, 0, none⟩ k.length cap (flatB k) (by rw [hz1, flatB_length]) hn
        have hst := run_storeCells_at Try.prog g1 (l.length * i0.size) t1 (flatB k) 0 cur1 w hh1 (by simpa using hfit) (flatB_one k)
        simp only [Nat.add_zero] at hst
        refine ⟨.slice (some ⟨g1, 0, none⟩) (l.length + k.length) cap1, _, by simp [Builtin.append_, run_underlying Try.underlying91, sizeOf, typeInfo, hi, Builtin.lenOf, hroom, hf, Addr.add_lit, hst]; rfl, last _ _ t1 ⟨by rw [List.length_append, flatB_length, flatB_length]; omega, .inr ⟨g1, cap1, _, rfl, hg1, setRow_heap w g1 cur1 _ t1 _ hh1, hroom, hcm1, ?_, ?_⟩⟩, ⟨rfl, rfl, rfl, by simp, fun x _ hx => setRow_other w g1 x _ (fun e => hx (by simp [Value.ownBlock, e]))⟩⟩
        · simp only [List.size_toArray, List.length_append, List.length_take, List.length_drop, Array.length_toList]
          omega
        · rw [hz1, htk1]
          show List.take _ (flatB l ++ (flatB k ++ _)) = _
          rw [← List.append_assoc]
          have e1 : (l.length + k.length) * 1 = (flatB l ++ flatB k).length := by rw [List.length_append, flatB_length, flatB_length]; omega
          rw [e1]
          exact List.take_left
      · have hr := run_append_grow (P := Try.prog) w 91 ty 5 i0 (.int .u8 0) Try.underlying91 hi hz0 ⟨g1, 0, none⟩ l.length cap1 (flatB l) (by rw [hz1, flatB_length]) (World.ownsRow.cells h (g := g1) rfl) ⟨g, 0, none⟩ k.length cap (flatB k) (by rw [hz1, flatB_length]) hn (by omega) (by omega) (growslice_fits (by omega) (by rw [hz2]; omega))
        have hge := grownCap_ge w (l.length + k.length) cap1 5
        refine ⟨_, _, hr, last _ _ 5 ⟨by rw [List.length_append, flatB_length, flatB_length]; omega, .inr ⟨w.heap.size, _, _, rfl, hb, heap_alloc_new w.drew _, hge, grownCap_le_maxLen w _ _ _ hmx, ?_, ?_⟩⟩, ⟨rfl, rfl, rfl, by simp, fun x hx _ => heap_alloc_old w.drew _ hx⟩⟩
        · simp only [Array.size_append, List.size_toArray, size_zeroCells, flatB_length]
          simp only [Value.cells, List.size_toArray, List.length_cons, List.length_nil]
          omega
        · simp only [Array.toList_append, List.append_assoc]
          rw [← List.append_assoc]
          have e1 : (l.length + k.length) * 1 = (flatB l ++ flatB k).length := by rw [List.length_append, flatB_length, flatB_length]; omega
          rw [e1]
          exact List.take_left
theorem wp_append_bytes {o : Oper} {a : Act} {w : World} {K : Act → World → Prop} {Q : Exit → Act → World → Prop} (s x : Operand)
    (ho : o.op = .call { callee := .builtin .append, args := #[s, x], argTypes := #[91, 91] })
    (b : Nat) (v : Value) (l : List Nat) (hs : a.eval s = v) (h : RowB w b v l) (c : Nat) (u : Value) (k : List Nat) (hx : a.eval x = u) (hk : RowB w c u k)
    (hb : b ≤ w.heap.size) (hsz : l.length + k.length ≤ 4294967296)
    (hK : ∀ v' w', RowB w' b v' (l ++ k) → w.grownBy w' v.ownBlock → K (a.put o.dst v') w') : o.wp Try.prog a w K Q := by
  obtain ⟨v', w', hr, h2, h3⟩ := run_append_bytes w o.type b v l h c u k hk hb hsz
  unfold Oper.wp execOp
  simp only [ho, resolve, invoke, builtin, Sem.run_bind, Sem.run_pure, Result.andThen_ok, List.map_toArray, List.map_cons, List.map_nil, hs, hx, hr]
  exact hK v' w' h2 h3
theorem wpList_append_bytes {ops : Array Oper} {rest : List Oper} {o : Oper} {a : Act} {w : World} {Q : Exit → Act → World → Prop} (hgd : o.guard = none) (s x : Operand)
    (ho : o.op = .call { callee := .builtin .append, args := #[s, x], argTypes := #[91, 91] })
    (b : Nat) (v : Value) (l : List Nat) (hs : a.eval s = v) (h : RowB w b v l) (c : Nat) (u : Value) (k : List Nat) (hx : a.eval x = u) (hk : RowB w c u k)
    (hb : b ≤ w.heap.size) (hsz : l.length + k.length ≤ 4294967296)
    (hK : ∀ v' w', RowB w' b v' (l ++ k) → w.grownBy w' v.ownBlock → wpList Try.prog ops Q rest (a.put o.dst v') w') : wpList Try.prog ops Q (o :: rest) a w :=
  wpList_plain hgd fun _ hK' => wp_append_bytes s x ho b v l hs h c u k hx hk hb hsz fun v' w' h2 h3 => hK' _ _ (hK v' w' h2 h3)
theorem cell_allocB {w : World} {p : Addr} {v : Value} {o : Obj} (h : w.cell? p = some v) : (w.alloc o).cell? p = some v := cell_on1 ((Below.refl _ _).alloc (Nat.le_refl _) o) h
/-- What a row looks like. -/
theorem RowB.form {w : World} {b : Nat} {v : Value} {l : List Nat} (h : RowB w b v l) :
    ∃ (ad : Option Addr) (cap : Nat), v = .slice ad l.length cap ∧ l.length ≤ cap ∧ (0 < l.length → ∃ g, ad = some ⟨g, 0, none⟩ ∧ b ≤ g ∧ g < w.heap.size ∧ ∀ k (hk : k < l.length), w.cell? ⟨g, k, none⟩ = some (.int .u8 ((l[k]'hk : Nat) : Int))) := by
  obtain ⟨ty, h⟩ := h
  rcases h.2 with ⟨hv, hn⟩ | ⟨g, cap, cur, hv, hb, hg, hcap, r⟩
  · exact ⟨none, 0, by rw [hv, hn], by omega, fun h0 => by omega⟩
  · subst hv
    refine ⟨_, cap, rfl, hcap, fun _ => ⟨g, rfl, hb, (Array.getElem?_eq_some_iff.1 hg).1, fun k hk => ?_⟩⟩
    rw [World.ownsRow.cellAt h k (by omega), flatB_at l k hk]
theorem RowB.frozen {w : World} {b g cap n : Nat} {l : List Nat} (h : RowB w b (.slice (some ⟨g, 0, none⟩) n cap) l) (j : Nat) : w.frozen? ⟨g, j, none⟩ = false := by
  obtain ⟨ty, h⟩ := h
  rcases h.2 with ⟨hv, _⟩ | ⟨g', cap', cur, hv, hb, hg, r⟩
  · cases hv
  · cases hv; simp [World.frozen?, hg]
/-- A byte is written over. -/
theorem RowB.put {w : World} {b g cap n : Nat} {l : List Nat} (h : RowB w b (.slice (some ⟨g, 0, none⟩) n cap) l) (j x : Nat) :
    RowB (w.setCell ⟨g, j, none⟩ (.int .u8 (x : Int))) b (.slice (some ⟨g, 0, none⟩) n cap) (l.set j x) ∧ w.grownBy (w.setCell ⟨g, j, none⟩ (.int .u8 (x : Int))) (some g) := by
  obtain ⟨ty, h'⟩ := h
  have hn : n = l.length := by
    rcases h'.2 with ⟨hv, _⟩ | ⟨_, _, _, hv, _⟩
    · cases hv
    · cases hv; rfl
  rw [hn] at h' ⊢
  have s1 := h'.stored j (.int .u8 (x : Int))
  refine ⟨?_, s1.2⟩
  have e : (flatB l).set j (.int .u8 (x : Int)) = flatB (l.set j x) := by
    unfold flatB
    rw [List.map_set]
  have := s1.1
  rw [e] at this
  refine ⟨ty, ?_⟩
  rw [List.length_set]
  exact this
theorem bel_grownB {B : Nat} {a w w' : World} {b : Nat} {v : Value} {l : List Nat} (h : Below B a w) (hr : RowB w b v l) (hg : w.grownBy w' v.ownBlock) (hB : B ≤ w.heap.size) (hb : B ≤ b) : Below B a w' :=
  h.grown hg hB fun k hk => Nat.le_trans hb (hr.lt k hk).1
theorem cell_on {W w1 : World} (hb : Below W.heap.size W w1) {p : Addr} {v : Value} (h : W.cell? p = some v) : w1.cell? p = some v := cell_on1 hb h
theorem cell_alloc {w : World} {p : Addr} {v : Value} {o : Obj} (h : w.cell? p = some v) : (w.alloc o).cell? p = some v := cell_allocB h
theorem SrcB.form {w : World} {v : Value} {l : List Nat} (h : SrcB w v l) : ∃ (ad : Option Addr) (cap : Nat), v = .slice ad l.length cap := by
  obtain ⟨ad, cap, rfl, _, _⟩ := h
  exact ⟨ad, cap, rfl⟩
end Go.Proofs.Ythfjdoenofkghaa
