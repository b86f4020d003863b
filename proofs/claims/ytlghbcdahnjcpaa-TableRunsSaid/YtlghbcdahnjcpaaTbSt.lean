/-
  step: a call on a table, held against the document's list. Written by tools/mkTbSt.py.
-/
import Derived.Test.YtlghbcdahnjcpaaTbTo
import Derived.Test.YtlghbcdahnjcpaaTbFr
import Derived.Test.YtlghbcdahnjcpaaTbRi
namespace Go.Proofs.Ytlghbcdahnjcpaa
open Go.RowKit
set_option linter.unusedVariables false
set_option linter.unusedSimpArgs false

/-- A list that is read, apart from the table's blocks. -/
def Dj (W : World) (t : Nat) (v u : Value) (L : List Ru) : Prop := SrcU W u L ∧ ∀ k, u.ownBlock = some k → k < W.heap.size ∧ k ≠ t ∧ v.ownBlock ≠ some k
theorem Dj.on {W W' : World} {t : Nat} {v u : Value} {L : List Ru} (h : Dj W t v u L) (hb : Below W.heap.size W W') : Dj W' t v u L := ⟨h.1.keep hb, fun k e => ⟨Nat.lt_of_lt_of_le (h.2 k e).1 hb.size, (h.2 k e).2⟩⟩
theorem Dj.moved {W W' : World} {t : Nat} {v v' u : Value} {L : List Ru} (h : Dj W t v u L) (m : Moved W W' t v v') : Dj W' t v' u L :=
  ⟨h.1.stay (fun k e hk => m.block k hk (h.2 k e).2.1 (h.2 k e).2.2), fun k e => ⟨Nat.lt_of_lt_of_le (h.2 k e).1 m.size, (h.2 k e).2.1, fun e' => by
    rcases m.own k e' with h1 | h1
    · exact (h.2 k e).2.2 h1
    · have := (h.2 k e).1; omega⟩⟩
theorem Dj.outc {W W' : World} {t : Nat} {v u m : Value} {M A : Int} {L L1 L' : List Ru} (h : Dj W t v u L) (hT : Tab W t v M A L1) (hb : Below W.heap.size W W') (ho : Outc W W' u m L') : Dj W' t v m L' := by
  refine ⟨ho.1, fun k e => ?_⟩
  rcases ho.2 with h1 | h1
  · rw [h1] at e
    exact ⟨Nat.lt_of_lt_of_le (h.2 k e).1 hb.size, (h.2 k e).2⟩
  · have h2 := h1 k e
    refine ⟨h2.2, fun e2 => ?_, fun e2 => ?_⟩
    · have := hT.lt; omega
    · have := hT.own e2; omega
theorem Dj.row {W W' : World} {t : Nat} {v m : Value} {M A : Int} {L1 L' : List Ru} (hT : Tab W t v M A L1) (hr : RowU W' W.heap.size m L') : Dj W' t v m L' := by
  refine ⟨hr.src, fun k e => ?_⟩
  have h2 := hr.lt k e
  refine ⟨h2.2, fun e2 => ?_, fun e2 => ?_⟩
  · have := hT.lt; omega
  · have := hT.own e2; omega
theorem rowU_stay {w w' : World} {b : Nat} {v : Value} {l : List Ru} (h : RowU w b v l) (hb : ∀ k, v.ownBlock = some k → w'.heap[k]? = w.heap[k]?) : RowU w' b v l := by
  refine ⟨h.1, ?_⟩
  rcases h.2 with h2 | ⟨g, cap, cur, hvv, hg, hh, r⟩
  · exact .inl h2
  · exact .inr ⟨g, cap, cur, hvv, hg, by rw [hb g (by rw [hvv]; rfl)]; exact hh, r⟩
theorem Tab.grownG {w w' : World} {t g : Nat} {v : Value} {M A : Int} {L : List Ru} (h : Tab w t v M A L) (hg : w.grownBy w' (some g)) (h1 : t ≠ g) (h2 : v.ownBlock ≠ some g) : Tab w' t v M A L :=
  ⟨by rw [hg.block t h.lt (by simpa using h1)]; exact h.1, rowU_stay h.2.1 (fun k e => hg.block k (h.own e) (by intro e2; cases e2; exact h2 e)), h.2.2⟩
theorem Dj.grown {W W' : World} {t g : Nat} {v u : Value} {L : List Ru} (h : Dj W t v u L) (hg : W.grownBy W' (some g)) (h1 : u.ownBlock ≠ some g) : Dj W' t v u L :=
  ⟨h.1.stay (fun k e hk => hg.block k hk (by intro e2; cases e2; exact h1 e)), fun k e => ⟨Nat.lt_of_lt_of_le (h.2 k e).1 hg.size, (h.2 k e).2⟩⟩
theorem Moved.grown {w w' w'' : World} {t g : Nat} {v v' : Value} (h : Moved w w' t v v') (hg : w'.grownBy w'' (some g)) (h1 : w.heap.size ≤ g) : Moved w w'' t v v' :=
  ⟨hg.os.trans h.os, hg.tape.trans h.tape, hg.output.trans h.output, Nat.le_trans h.size hg.size, fun k hk h2 h3 => by rw [hg.block k (Nat.lt_of_lt_of_le hk h.size) (by simp; omega), h.block k hk h2 h3], h.own⟩
def StepPost (w : World) (t : Nat) (v : Value) (M A : Int) (L : List Ru) (e : Ending) (w' : World) : Prop :=
  ∃ (m v' : Value) (L' : List Ru), e = .returned (.tuple #[m, .bool true]) ∧ Tab w' t v' M A L' ∧ Dj w' t v' m L' ∧ Moved w w' t v v' ∧ (L'.length ≤ L.length + 1 ∨ L'.length ≤ 2000) ∧ ∀ R ∈ L', BdR R
theorem bd_at {L : List Ru} (h : ∀ R ∈ L, BdR R) : ∀ k (hk : k < L.length), BdR (L[k]'hk) := fun k hk => h _ (List.getElem_mem hk)
theorem put_mem {l : List Ru} {p : Nat} {R S : Ru} (h : S ∈ putL l p R) : S = R ∨ S ∈ l := by
  unfold putL at h
  rcases List.mem_append.1 h with h | h
  · exact .inr (List.mem_of_mem_take h)
  · rcases List.mem_cons.1 h with h | h
    · exact .inl h
    · exact .inr (List.mem_of_mem_drop h)
theorem out_mem {l : List Ru} {k : Nat} {S : Ru} (h : S ∈ outL l k) : S ∈ l := by
  unfold outL at h
  rcases List.mem_append.1 h with h | h
  · exact List.mem_of_mem_take h
  · exact List.mem_of_mem_drop h
theorem put_len (l : List Ru) (p : Nat) (R : Ru) : (putL l p R).length = l.length + 1 := by
  unfold putL; simp; omega
theorem out_len (l : List Ru) (k : Nat) : (outL l k).length ≤ l.length := by
  unfold outL; simp; omega
theorem ins_bd {l : List Ru} {M p : Int} {R : Ru} (h : ∀ S ∈ l, BdR S) (b : BdR R) : (insL l M p R).length ≤ l.length + 1 ∧ ∀ S ∈ insL l M p R, BdR S := by
  unfold insL
  split
  · refine ⟨by rw [put_len]; exact Nat.le_refl _, fun S hS => ?_⟩
    rcases put_mem hS with rfl | h1
    · exact b
    · exact h S h1
  · exact ⟨by omega, h⟩
theorem del_bd {l : List Ru} {x : Int} (h : ∀ S ∈ l, BdR S) : (delL l x).length ≤ l.length + 1 ∧ ∀ S ∈ delL l x, BdR S := by
  unfold delL
  split
  · exact ⟨Nat.le_succ_of_le (out_len _ _), fun S hS => h S (out_mem hS)⟩
  · exact ⟨by omega, h⟩
theorem mov_bd {l : List Ru} {x q : Int} (h : ∀ S ∈ l, BdR S) : (movL l x q).length ≤ l.length + 1 ∧ ∀ S ∈ movL l x q, BdR S := by
  unfold movL
  split
  · refine ⟨by rw [put_len]; have := out_len l (fnd l x).toNat; omega, fun S hS => ?_⟩
    rcases put_mem hS with rfl | h1
    · by_cases hk : (fnd l x).toNat < l.length
      · rw [List.getD_eq_getElem?_getD, List.getElem?_eq_getElem hk]
        exact h _ (List.getElem_mem hk)
      · rw [List.getD_eq_getElem?_getD, List.getElem?_eq_none (by omega)]
        exact ruZ_bd
    · exact h S (out_mem h1)
  · exact ⟨by omega, h⟩
set_option maxRecDepth 100000 in
set_option maxHeartbeats 8000000 in
theorem step1C (t : Nat) (v : Value) (L : List Ru) (u : Value) (c : Cf) (o : Opp) (w0 w : World) (hT : Tab w t v c.m c.a L) (hD : Dj w t v u L) (hL : L.length ≤ 100000) (hbd : ∀ R ∈ L, BdR R) (hM : I64 c.m) (hB : Below w0.heap.size w0 w) (ht0 : w0.heap.size ≤ t) (hv0 : ∀ k, v.ownBlock = some k → w0.heap.size ≤ k) (hO : BdO w0 o) (hol : o.l.length ≤ 2000) (hk : o.k = 1) :
    Calls Try.prog 14 #[.pointer (some ⟨t, 0, none⟩), u, .agg #[.int .i64 c.m, .int .i64 c.a, .int .i64 c.p, .int .i64 c.g, .int .i64 c.t, .int .i64 c.b, .int .i64 c.d], .agg (encO o).toArray] w fun e w' => StepPost w t v c.m c.a L e w' := by
  have hbU : Below w.heap.size w ((w.alloc (.cells #[.int .i64 c.m, .int .i64 c.a, .int .i64 c.p, .int .i64 c.g, .int .i64 c.t, .int .i64 c.b, .int .i64 c.d] 24)).alloc (.cells (encO o).toArray 47)) := ((Below.refl _ _).alloc (Nat.le_refl _) _).alloc (by simp) _
  have HTU : Hid (Tab ((w.alloc (.cells #[.int .i64 c.m, .int .i64 c.a, .int .i64 c.p, .int .i64 c.g, .int .i64 c.t, .int .i64 c.b, .int .i64 c.d] 24)).alloc (.cells (encO o).toArray 47)) t v c.m c.a L) := hT.on hbU
  have HDU : Hid (Dj ((w.alloc (.cells #[.int .i64 c.m, .int .i64 c.a, .int .i64 c.p, .int .i64 c.g, .int .i64 c.t, .int .i64 c.b, .int .i64 c.d] 24)).alloc (.cells (encO o).toArray 47)) t v u L) := hD.on hbU
  have hlt := hT.lt
  have hown : ∀ k, v.ownBlock = some k → k < w.heap.size := fun k e => hT.own e
  have KC : Hid (Kb ((w.alloc (.cells #[.int .i64 c.m, .int .i64 c.a, .int .i64 c.p, .int .i64 c.g, .int .i64 c.t, .int .i64 c.b, .int .i64 c.d] 24)).alloc (.cells (encO o).toArray 47)) t v w.heap.size (.cells #[.int .i64 c.m, .int .i64 c.a, .int .i64 c.p, .int .i64 c.g, .int .i64 c.t, .int .i64 c.b, .int .i64 c.d] 24)) := ⟨blk_alloc (blk_new w _) _, by omega, fun e => by have := hown _ e; omega⟩
  have KO : Hid (Kb ((w.alloc (.cells #[.int .i64 c.m, .int .i64 c.a, .int .i64 c.p, .int .i64 c.g, .int .i64 c.t, .int .i64 c.b, .int .i64 c.d] 24)).alloc (.cells (encO o).toArray 47)) t v (w.heap.size + 1) (.cells (encO o).toArray 47)) := ⟨by simpa using blk_new (w.alloc (.cells #[.int .i64 c.m, .int .i64 c.a, .int .i64 c.p, .int .i64 c.g, .int .i64 c.t, .int .i64 c.b, .int .i64 c.d] 24)) (.cells (encO o).toArray 47), by omega, fun e => by have := hown _ e; omega⟩
  have HMU : Hid (Moved w ((w.alloc (.cells #[.int .i64 c.m, .int .i64 c.a, .int .i64 c.p, .int .i64 c.g, .int .i64 c.t, .int .i64 c.b, .int .i64 c.d] 24)).alloc (.cells (encO o).toArray 47)) t v v) := Moved.of_below hbU
  have hUs : ((w.alloc (.cells #[.int .i64 c.m, .int .i64 c.a, .int .i64 c.p, .int .i64 c.g, .int .i64 c.t, .int .i64 c.b, .int .i64 c.d] 24)).alloc (.cells (encO o).toArray 47)).heap.size = w.heap.size + 1 + 1 := by simp
  have x0 : ((w.alloc (.cells #[.int .i64 c.m, .int .i64 c.a, .int .i64 c.p, .int .i64 c.g, .int .i64 c.t, .int .i64 c.b, .int .i64 c.d] 24)).alloc (.cells (encO o).toArray 47)).cell? ⟨w.heap.size + 1, 0, none⟩ = some (.int .i64 o.k) := blk_cell KO.out.1 rfl
  rw [hk] at x0
  have x1 : ((w.alloc (.cells #[.int .i64 c.m, .int .i64 c.a, .int .i64 c.p, .int .i64 c.g, .int .i64 c.t, .int .i64 c.b, .int .i64 c.d] 24)).alloc (.cells (encO o).toArray 47)).cell? ⟨w.heap.size + 1, 1, none⟩ = some (.int .i64 o.p) := blk_cell KO.out.1 rfl
  have x3 : ((w.alloc (.cells #[.int .i64 c.m, .int .i64 c.a, .int .i64 c.p, .int .i64 c.g, .int .i64 c.t, .int .i64 c.b, .int .i64 c.d] 24)).alloc (.cells (encO o).toArray 47)).cell? ⟨w.heap.size + 1, 3, none⟩ = some (.int .i64 o.r.i) := blk_cell KO.out.1 rfl
  have x4 : ((w.alloc (.cells #[.int .i64 c.m, .int .i64 c.a, .int .i64 c.p, .int .i64 c.g, .int .i64 c.t, .int .i64 c.b, .int .i64 c.d] 24)).alloc (.cells (encO o).toArray 47)).cell? ⟨w.heap.size + 1, 4, none⟩ = some (.int .u32 (o.r.s : Int)) := blk_cell KO.out.1 rfl
  have x5 : ((w.alloc (.cells #[.int .i64 c.m, .int .i64 c.a, .int .i64 c.p, .int .i64 c.g, .int .i64 c.t, .int .i64 c.b, .int .i64 c.d] 24)).alloc (.cells (encO o).toArray 47)).cell? ⟨w.heap.size + 1, 5, none⟩ = some (.int .i64 o.r.sl) := blk_cell KO.out.1 rfl
  have x6 : ((w.alloc (.cells #[.int .i64 c.m, .int .i64 c.a, .int .i64 c.p, .int .i64 c.g, .int .i64 c.t, .int .i64 c.b, .int .i64 c.d] 24)).alloc (.cells (encO o).toArray 47)).cell? ⟨w.heap.size + 1, 6, none⟩ = some (.int .u32 (o.r.d : Int)) := blk_cell KO.out.1 rfl
  have x7 : ((w.alloc (.cells #[.int .i64 c.m, .int .i64 c.a, .int .i64 c.p, .int .i64 c.g, .int .i64 c.t, .int .i64 c.b, .int .i64 c.d] 24)).alloc (.cells (encO o).toArray 47)).cell? ⟨w.heap.size + 1, 7, none⟩ = some (.int .i64 o.r.dl) := blk_cell KO.out.1 rfl
  have x8 : ((w.alloc (.cells #[.int .i64 c.m, .int .i64 c.a, .int .i64 c.p, .int .i64 c.g, .int .i64 c.t, .int .i64 c.b, .int .i64 c.d] 24)).alloc (.cells (encO o).toArray 47)).cell? ⟨w.heap.size + 1, 8, none⟩ = some (.int .u16 (o.r.p.1 : Int)) := blk_cell KO.out.1 rfl
  have x9 : ((w.alloc (.cells #[.int .i64 c.m, .int .i64 c.a, .int .i64 c.p, .int .i64 c.g, .int .i64 c.t, .int .i64 c.b, .int .i64 c.d] 24)).alloc (.cells (encO o).toArray 47)).cell? ⟨w.heap.size + 1, 9, none⟩ = some (.int .u16 (o.r.p.2 : Int)) := blk_cell KO.out.1 rfl
  have x10 : ((w.alloc (.cells #[.int .i64 c.m, .int .i64 c.a, .int .i64 c.p, .int .i64 c.g, .int .i64 c.t, .int .i64 c.b, .int .i64 c.d] 24)).alloc (.cells (encO o).toArray 47)).cell? ⟨w.heap.size + 1, 10, none⟩ = some (.int .u16 (o.r.q.1 : Int)) := blk_cell KO.out.1 rfl
  have x11 : ((w.alloc (.cells #[.int .i64 c.m, .int .i64 c.a, .int .i64 c.p, .int .i64 c.g, .int .i64 c.t, .int .i64 c.b, .int .i64 c.d] 24)).alloc (.cells (encO o).toArray 47)).cell? ⟨w.heap.size + 1, 11, none⟩ = some (.int .u16 (o.r.q.2 : Int)) := blk_cell KO.out.1 rfl
  have x12 : ((w.alloc (.cells #[.int .i64 c.m, .int .i64 c.a, .int .i64 c.p, .int .i64 c.g, .int .i64 c.t, .int .i64 c.b, .int .i64 c.d] 24)).alloc (.cells (encO o).toArray 47)).cell? ⟨w.heap.size + 1, 12, none⟩ = some (.int .u8 (o.r.m.1 : Int)) := blk_cell KO.out.1 rfl
  have x13 : ((w.alloc (.cells #[.int .i64 c.m, .int .i64 c.a, .int .i64 c.p, .int .i64 c.g, .int .i64 c.t, .int .i64 c.b, .int .i64 c.d] 24)).alloc (.cells (encO o).toArray 47)).cell? ⟨w.heap.size + 1, 13, none⟩ = some (.int .u8 (o.r.m.2 : Int)) := blk_cell KO.out.1 rfl
  have x14 : ((w.alloc (.cells #[.int .i64 c.m, .int .i64 c.a, .int .i64 c.p, .int .i64 c.g, .int .i64 c.t, .int .i64 c.b, .int .i64 c.d] 24)).alloc (.cells (encO o).toArray 47)).cell? ⟨w.heap.size + 1, 14, none⟩ = some (.int .i64 o.r.act) := blk_cell KO.out.1 rfl
  obtain ⟨E, hE⟩ : ∃ E, E = insE L c.m o.p o.r := ⟨_, rfl⟩
  have h1 := insertC t v c.m c.a L o.p o.r _ HTU.out (by omega) hO.2.2.2.1 hM
  rw [← hE] at h1
  have hR2 := fun (m : Value) (W : World) (hs : SrcU W u L) => rinsC u L c.m o.p o.r W hs (by omega) hO.2.2.2.1
  rw [← hE] at hR2
  have Hbd : Hid _ := @ins_bd L c.m o.p o.r hbd hO.2.2.2.1
  clear hE hO hT hD hbU
  go_enter Try.func14, Try.ntmps14
  go_wp2_with (fail)
  refine h1.mono ?_
  rintro e W1 ⟨rfl, v1, hT1, hm1⟩
  have HT1 : Hid (Tab W1 t v1 c.m c.a (insL L c.m o.p o.r)) := hT1
  have HM1 : Hid (Moved w W1 t v v1) := HMU.out.trans hm1
  have HD1 : Hid (Dj W1 t v1 u L) := HDU.out.moved hm1
  have KC1 : Hid (Kb W1 t v1 w.heap.size (.cells #[.int .i64 c.m, .int .i64 c.a, .int .i64 c.p, .int .i64 c.g, .int .i64 c.t, .int .i64 c.b, .int .i64 c.d] 24)) := KC.out.moved hm1
  have KO1 : Hid (Kb W1 t v1 (w.heap.size + 1) (.cells (encO o).toArray 47)) := KO.out.moved hm1
  clear h1 hT1 hm1 HDU HTU HMU KC KO x0
  clear x1 x3 x4 x5 x6 x7 x8 x9 x10 x11 x12 x13 x14
  have x1 : W1.cell? ⟨w.heap.size + 1, 1, none⟩ = some (.int .i64 o.p) := blk_cell KO1.out.1 rfl
  have x3 : W1.cell? ⟨w.heap.size + 1, 3, none⟩ = some (.int .i64 o.r.i) := blk_cell KO1.out.1 rfl
  have x4 : W1.cell? ⟨w.heap.size + 1, 4, none⟩ = some (.int .u32 (o.r.s : Int)) := blk_cell KO1.out.1 rfl
  have x5 : W1.cell? ⟨w.heap.size + 1, 5, none⟩ = some (.int .i64 o.r.sl) := blk_cell KO1.out.1 rfl
  have x6 : W1.cell? ⟨w.heap.size + 1, 6, none⟩ = some (.int .u32 (o.r.d : Int)) := blk_cell KO1.out.1 rfl
  have x7 : W1.cell? ⟨w.heap.size + 1, 7, none⟩ = some (.int .i64 o.r.dl) := blk_cell KO1.out.1 rfl
  have x8 : W1.cell? ⟨w.heap.size + 1, 8, none⟩ = some (.int .u16 (o.r.p.1 : Int)) := blk_cell KO1.out.1 rfl
  have x9 : W1.cell? ⟨w.heap.size + 1, 9, none⟩ = some (.int .u16 (o.r.p.2 : Int)) := blk_cell KO1.out.1 rfl
  have x10 : W1.cell? ⟨w.heap.size + 1, 10, none⟩ = some (.int .u16 (o.r.q.1 : Int)) := blk_cell KO1.out.1 rfl
  have x11 : W1.cell? ⟨w.heap.size + 1, 11, none⟩ = some (.int .u16 (o.r.q.2 : Int)) := blk_cell KO1.out.1 rfl
  have x12 : W1.cell? ⟨w.heap.size + 1, 12, none⟩ = some (.int .u8 (o.r.m.1 : Int)) := blk_cell KO1.out.1 rfl
  have x13 : W1.cell? ⟨w.heap.size + 1, 13, none⟩ = some (.int .u8 (o.r.m.2 : Int)) := blk_cell KO1.out.1 rfl
  have x14 : W1.cell? ⟨w.heap.size + 1, 14, none⟩ = some (.int .i64 o.r.act) := blk_cell KO1.out.1 rfl
  have z0 : W1.cell? ⟨w.heap.size, 0, none⟩ = some (.int .i64 c.m) := blk_cell KC1.out.1 rfl
  have h2 := hR2 u W1 HD1.out.1
  clear hR2
  go_wp2_with (fail)
  refine h2.mono ?_
  rintro e W2 ⟨m, rfl, ho, hb2⟩
  have HF : Hid (StepPost w t v c.m c.a L (.returned (.tuple #[m, .bool true])) W2) := ⟨m, v1, _, rfl, HT1.out.on hb2, HD1.out.outc HT1.out hb2 ho, HM1.out.trans (Moved.of_below hb2), .inl Hbd.out.1, Hbd.out.2⟩
  clear h2 ho hb2 HT1 HD1 HM1 KC1 KO1
  clear x1 x3 x4 x5 x6 x7 x8 x9 x10 x11 x12 x13 x14
  clear z0
  go_wp2_with (fail)
  refine bodyPost_ret (v := .tuple #[m, .bool true]) (by simp [results, Try.results14, go_sem]) rfl ?_
  exact HF.out
set_option maxRecDepth 100000 in
set_option maxHeartbeats 8000000 in
theorem step2C (t : Nat) (v : Value) (L : List Ru) (u : Value) (c : Cf) (o : Opp) (w0 w : World) (hT : Tab w t v c.m c.a L) (hD : Dj w t v u L) (hL : L.length ≤ 100000) (hbd : ∀ R ∈ L, BdR R) (hM : I64 c.m) (hB : Below w0.heap.size w0 w) (ht0 : w0.heap.size ≤ t) (hv0 : ∀ k, v.ownBlock = some k → w0.heap.size ≤ k) (hO : BdO w0 o) (hol : o.l.length ≤ 2000) (hk : o.k = 2) :
    Calls Try.prog 14 #[.pointer (some ⟨t, 0, none⟩), u, .agg #[.int .i64 c.m, .int .i64 c.a, .int .i64 c.p, .int .i64 c.g, .int .i64 c.t, .int .i64 c.b, .int .i64 c.d], .agg (encO o).toArray] w fun e w' => StepPost w t v c.m c.a L e w' := by
  have hbU : Below w.heap.size w ((w.alloc (.cells #[.int .i64 c.m, .int .i64 c.a, .int .i64 c.p, .int .i64 c.g, .int .i64 c.t, .int .i64 c.b, .int .i64 c.d] 24)).alloc (.cells (encO o).toArray 47)) := ((Below.refl _ _).alloc (Nat.le_refl _) _).alloc (by simp) _
  have HTU : Hid (Tab ((w.alloc (.cells #[.int .i64 c.m, .int .i64 c.a, .int .i64 c.p, .int .i64 c.g, .int .i64 c.t, .int .i64 c.b, .int .i64 c.d] 24)).alloc (.cells (encO o).toArray 47)) t v c.m c.a L) := hT.on hbU
  have HDU : Hid (Dj ((w.alloc (.cells #[.int .i64 c.m, .int .i64 c.a, .int .i64 c.p, .int .i64 c.g, .int .i64 c.t, .int .i64 c.b, .int .i64 c.d] 24)).alloc (.cells (encO o).toArray 47)) t v u L) := hD.on hbU
  have hlt := hT.lt
  have hown : ∀ k, v.ownBlock = some k → k < w.heap.size := fun k e => hT.own e
  have KC : Hid (Kb ((w.alloc (.cells #[.int .i64 c.m, .int .i64 c.a, .int .i64 c.p, .int .i64 c.g, .int .i64 c.t, .int .i64 c.b, .int .i64 c.d] 24)).alloc (.cells (encO o).toArray 47)) t v w.heap.size (.cells #[.int .i64 c.m, .int .i64 c.a, .int .i64 c.p, .int .i64 c.g, .int .i64 c.t, .int .i64 c.b, .int .i64 c.d] 24)) := ⟨blk_alloc (blk_new w _) _, by omega, fun e => by have := hown _ e; omega⟩
  have KO : Hid (Kb ((w.alloc (.cells #[.int .i64 c.m, .int .i64 c.a, .int .i64 c.p, .int .i64 c.g, .int .i64 c.t, .int .i64 c.b, .int .i64 c.d] 24)).alloc (.cells (encO o).toArray 47)) t v (w.heap.size + 1) (.cells (encO o).toArray 47)) := ⟨by simpa using blk_new (w.alloc (.cells #[.int .i64 c.m, .int .i64 c.a, .int .i64 c.p, .int .i64 c.g, .int .i64 c.t, .int .i64 c.b, .int .i64 c.d] 24)) (.cells (encO o).toArray 47), by omega, fun e => by have := hown _ e; omega⟩
  have HMU : Hid (Moved w ((w.alloc (.cells #[.int .i64 c.m, .int .i64 c.a, .int .i64 c.p, .int .i64 c.g, .int .i64 c.t, .int .i64 c.b, .int .i64 c.d] 24)).alloc (.cells (encO o).toArray 47)) t v v) := Moved.of_below hbU
  have hUs : ((w.alloc (.cells #[.int .i64 c.m, .int .i64 c.a, .int .i64 c.p, .int .i64 c.g, .int .i64 c.t, .int .i64 c.b, .int .i64 c.d] 24)).alloc (.cells (encO o).toArray 47)).heap.size = w.heap.size + 1 + 1 := by simp
  have x0 : ((w.alloc (.cells #[.int .i64 c.m, .int .i64 c.a, .int .i64 c.p, .int .i64 c.g, .int .i64 c.t, .int .i64 c.b, .int .i64 c.d] 24)).alloc (.cells (encO o).toArray 47)).cell? ⟨w.heap.size + 1, 0, none⟩ = some (.int .i64 o.k) := blk_cell KO.out.1 rfl
  rw [hk] at x0
  have x2 : ((w.alloc (.cells #[.int .i64 c.m, .int .i64 c.a, .int .i64 c.p, .int .i64 c.g, .int .i64 c.t, .int .i64 c.b, .int .i64 c.d] 24)).alloc (.cells (encO o).toArray 47)).cell? ⟨w.heap.size + 1, 2, none⟩ = some (.int .i64 o.i) := blk_cell KO.out.1 rfl
  obtain ⟨E, hE⟩ : ∃ E, E = delE L o.i := ⟨_, rfl⟩
  have h1 := deleteC t v c.m c.a L o.i _ HTU.out (by omega)
  rw [← hE] at h1
  have hR2 := fun (m : Value) (W : World) (hs : SrcU W u L) => rdelC u L o.i W hs (by omega)
  rw [← hE] at hR2
  have Hbd : Hid _ := @del_bd L o.i hbd
  clear hE hO hT hD hbU
  go_enter Try.func14, Try.ntmps14
  go_wp2_with (fail)
  refine h1.mono ?_
  rintro e W1 ⟨rfl, v1, hT1, hm1⟩
  have HT1 : Hid (Tab W1 t v1 c.m c.a (delL L o.i)) := hT1
  have HM1 : Hid (Moved w W1 t v v1) := HMU.out.trans hm1
  have HD1 : Hid (Dj W1 t v1 u L) := HDU.out.moved hm1
  have KC1 : Hid (Kb W1 t v1 w.heap.size (.cells #[.int .i64 c.m, .int .i64 c.a, .int .i64 c.p, .int .i64 c.g, .int .i64 c.t, .int .i64 c.b, .int .i64 c.d] 24)) := KC.out.moved hm1
  have KO1 : Hid (Kb W1 t v1 (w.heap.size + 1) (.cells (encO o).toArray 47)) := KO.out.moved hm1
  clear h1 hT1 hm1 HDU HTU HMU KC KO x0
  clear x2
  have x2 : W1.cell? ⟨w.heap.size + 1, 2, none⟩ = some (.int .i64 o.i) := blk_cell KO1.out.1 rfl
  have h2 := hR2 u W1 HD1.out.1
  clear hR2
  go_wp2_with (fail)
  refine h2.mono ?_
  rintro e W2 ⟨m, rfl, ho, hb2⟩
  have HF : Hid (StepPost w t v c.m c.a L (.returned (.tuple #[m, .bool true])) W2) := ⟨m, v1, _, rfl, HT1.out.on hb2, HD1.out.outc HT1.out hb2 ho, HM1.out.trans (Moved.of_below hb2), .inl Hbd.out.1, Hbd.out.2⟩
  clear h2 ho hb2 HT1 HD1 HM1 KC1 KO1
  clear x2
  go_wp2_with (fail)
  refine bodyPost_ret (v := .tuple #[m, .bool true]) (by simp [results, Try.results14, go_sem]) rfl ?_
  exact HF.out
set_option maxRecDepth 100000 in
set_option maxHeartbeats 8000000 in
theorem step3C (t : Nat) (v : Value) (L : List Ru) (u : Value) (c : Cf) (o : Opp) (w0 w : World) (hT : Tab w t v c.m c.a L) (hD : Dj w t v u L) (hL : L.length ≤ 100000) (hbd : ∀ R ∈ L, BdR R) (hM : I64 c.m) (hB : Below w0.heap.size w0 w) (ht0 : w0.heap.size ≤ t) (hv0 : ∀ k, v.ownBlock = some k → w0.heap.size ≤ k) (hO : BdO w0 o) (hol : o.l.length ≤ 2000) (hk : o.k = 3) :
    Calls Try.prog 14 #[.pointer (some ⟨t, 0, none⟩), u, .agg #[.int .i64 c.m, .int .i64 c.a, .int .i64 c.p, .int .i64 c.g, .int .i64 c.t, .int .i64 c.b, .int .i64 c.d], .agg (encO o).toArray] w fun e w' => StepPost w t v c.m c.a L e w' := by
  have hbU : Below w.heap.size w ((w.alloc (.cells #[.int .i64 c.m, .int .i64 c.a, .int .i64 c.p, .int .i64 c.g, .int .i64 c.t, .int .i64 c.b, .int .i64 c.d] 24)).alloc (.cells (encO o).toArray 47)) := ((Below.refl _ _).alloc (Nat.le_refl _) _).alloc (by simp) _
  have HTU : Hid (Tab ((w.alloc (.cells #[.int .i64 c.m, .int .i64 c.a, .int .i64 c.p, .int .i64 c.g, .int .i64 c.t, .int .i64 c.b, .int .i64 c.d] 24)).alloc (.cells (encO o).toArray 47)) t v c.m c.a L) := hT.on hbU
  have HDU : Hid (Dj ((w.alloc (.cells #[.int .i64 c.m, .int .i64 c.a, .int .i64 c.p, .int .i64 c.g, .int .i64 c.t, .int .i64 c.b, .int .i64 c.d] 24)).alloc (.cells (encO o).toArray 47)) t v u L) := hD.on hbU
  have hlt := hT.lt
  have hown : ∀ k, v.ownBlock = some k → k < w.heap.size := fun k e => hT.own e
  have KC : Hid (Kb ((w.alloc (.cells #[.int .i64 c.m, .int .i64 c.a, .int .i64 c.p, .int .i64 c.g, .int .i64 c.t, .int .i64 c.b, .int .i64 c.d] 24)).alloc (.cells (encO o).toArray 47)) t v w.heap.size (.cells #[.int .i64 c.m, .int .i64 c.a, .int .i64 c.p, .int .i64 c.g, .int .i64 c.t, .int .i64 c.b, .int .i64 c.d] 24)) := ⟨blk_alloc (blk_new w _) _, by omega, fun e => by have := hown _ e; omega⟩
  have KO : Hid (Kb ((w.alloc (.cells #[.int .i64 c.m, .int .i64 c.a, .int .i64 c.p, .int .i64 c.g, .int .i64 c.t, .int .i64 c.b, .int .i64 c.d] 24)).alloc (.cells (encO o).toArray 47)) t v (w.heap.size + 1) (.cells (encO o).toArray 47)) := ⟨by simpa using blk_new (w.alloc (.cells #[.int .i64 c.m, .int .i64 c.a, .int .i64 c.p, .int .i64 c.g, .int .i64 c.t, .int .i64 c.b, .int .i64 c.d] 24)) (.cells (encO o).toArray 47), by omega, fun e => by have := hown _ e; omega⟩
  have HMU : Hid (Moved w ((w.alloc (.cells #[.int .i64 c.m, .int .i64 c.a, .int .i64 c.p, .int .i64 c.g, .int .i64 c.t, .int .i64 c.b, .int .i64 c.d] 24)).alloc (.cells (encO o).toArray 47)) t v v) := Moved.of_below hbU
  have hUs : ((w.alloc (.cells #[.int .i64 c.m, .int .i64 c.a, .int .i64 c.p, .int .i64 c.g, .int .i64 c.t, .int .i64 c.b, .int .i64 c.d] 24)).alloc (.cells (encO o).toArray 47)).heap.size = w.heap.size + 1 + 1 := by simp
  have x0 : ((w.alloc (.cells #[.int .i64 c.m, .int .i64 c.a, .int .i64 c.p, .int .i64 c.g, .int .i64 c.t, .int .i64 c.b, .int .i64 c.d] 24)).alloc (.cells (encO o).toArray 47)).cell? ⟨w.heap.size + 1, 0, none⟩ = some (.int .i64 o.k) := blk_cell KO.out.1 rfl
  rw [hk] at x0
  have x1 : ((w.alloc (.cells #[.int .i64 c.m, .int .i64 c.a, .int .i64 c.p, .int .i64 c.g, .int .i64 c.t, .int .i64 c.b, .int .i64 c.d] 24)).alloc (.cells (encO o).toArray 47)).cell? ⟨w.heap.size + 1, 1, none⟩ = some (.int .i64 o.p) := blk_cell KO.out.1 rfl
  have x2 : ((w.alloc (.cells #[.int .i64 c.m, .int .i64 c.a, .int .i64 c.p, .int .i64 c.g, .int .i64 c.t, .int .i64 c.b, .int .i64 c.d] 24)).alloc (.cells (encO o).toArray 47)).cell? ⟨w.heap.size + 1, 2, none⟩ = some (.int .i64 o.i) := blk_cell KO.out.1 rfl
  obtain ⟨E, hE⟩ : ∃ E, E = movE L o.i o.p := ⟨_, rfl⟩
  have h1 := moveC t v c.m c.a L o.i o.p _ HTU.out (by omega)
  rw [← hE] at h1
  have hR2 := fun (m : Value) (W : World) (hs : SrcU W u L) => rmovC u L o.i o.p W hs (by omega)
  rw [← hE] at hR2
  have Hbd : Hid _ := @mov_bd L o.i o.p hbd
  clear hE hO hT hD hbU
  go_enter Try.func14, Try.ntmps14
  go_wp2_with (fail)
  refine h1.mono ?_
  rintro e W1 ⟨rfl, v1, hT1, hm1⟩
  have HT1 : Hid (Tab W1 t v1 c.m c.a (movL L o.i o.p)) := hT1
  have HM1 : Hid (Moved w W1 t v v1) := HMU.out.trans hm1
  have HD1 : Hid (Dj W1 t v1 u L) := HDU.out.moved hm1
  have KC1 : Hid (Kb W1 t v1 w.heap.size (.cells #[.int .i64 c.m, .int .i64 c.a, .int .i64 c.p, .int .i64 c.g, .int .i64 c.t, .int .i64 c.b, .int .i64 c.d] 24)) := KC.out.moved hm1
  have KO1 : Hid (Kb W1 t v1 (w.heap.size + 1) (.cells (encO o).toArray 47)) := KO.out.moved hm1
  clear h1 hT1 hm1 HDU HTU HMU KC KO x0
  clear x1 x2
  have x1 : W1.cell? ⟨w.heap.size + 1, 1, none⟩ = some (.int .i64 o.p) := blk_cell KO1.out.1 rfl
  have x2 : W1.cell? ⟨w.heap.size + 1, 2, none⟩ = some (.int .i64 o.i) := blk_cell KO1.out.1 rfl
  have h2 := hR2 u W1 HD1.out.1
  clear hR2
  go_wp2_with (fail)
  refine h2.mono ?_
  rintro e W2 ⟨m, rfl, ho, hb2⟩
  have HF : Hid (StepPost w t v c.m c.a L (.returned (.tuple #[m, .bool true])) W2) := ⟨m, v1, _, rfl, HT1.out.on hb2, HD1.out.outc HT1.out hb2 ho, HM1.out.trans (Moved.of_below hb2), .inl Hbd.out.1, Hbd.out.2⟩
  clear h2 ho hb2 HT1 HD1 HM1 KC1 KO1
  clear x1 x2
  go_wp2_with (fail)
  refine bodyPost_ret (v := .tuple #[m, .bool true]) (by simp [results, Try.results14, go_sem]) rfl ?_
  exact HF.out
set_option maxRecDepth 100000 in
set_option maxHeartbeats 8000000 in
theorem step7C (t : Nat) (v : Value) (L : List Ru) (u : Value) (c : Cf) (o : Opp) (w0 w : World) (hT : Tab w t v c.m c.a L) (hD : Dj w t v u L) (hL : L.length ≤ 100000) (hbd : ∀ R ∈ L, BdR R) (hM : I64 c.m) (hB : Below w0.heap.size w0 w) (ht0 : w0.heap.size ≤ t) (hv0 : ∀ k, v.ownBlock = some k → w0.heap.size ≤ k) (hO : BdO w0 o) (hol : o.l.length ≤ 2000) (hk : o.k = 7) :
    Calls Try.prog 14 #[.pointer (some ⟨t, 0, none⟩), u, .agg #[.int .i64 c.m, .int .i64 c.a, .int .i64 c.p, .int .i64 c.g, .int .i64 c.t, .int .i64 c.b, .int .i64 c.d], .agg (encO o).toArray] w fun e w' => StepPost w t v c.m c.a L e w' := by
  have hbU : Below w.heap.size w ((w.alloc (.cells #[.int .i64 c.m, .int .i64 c.a, .int .i64 c.p, .int .i64 c.g, .int .i64 c.t, .int .i64 c.b, .int .i64 c.d] 24)).alloc (.cells (encO o).toArray 47)) := ((Below.refl _ _).alloc (Nat.le_refl _) _).alloc (by simp) _
  have HTU : Hid (Tab ((w.alloc (.cells #[.int .i64 c.m, .int .i64 c.a, .int .i64 c.p, .int .i64 c.g, .int .i64 c.t, .int .i64 c.b, .int .i64 c.d] 24)).alloc (.cells (encO o).toArray 47)) t v c.m c.a L) := hT.on hbU
  have HDU : Hid (Dj ((w.alloc (.cells #[.int .i64 c.m, .int .i64 c.a, .int .i64 c.p, .int .i64 c.g, .int .i64 c.t, .int .i64 c.b, .int .i64 c.d] 24)).alloc (.cells (encO o).toArray 47)) t v u L) := hD.on hbU
  have hlt := hT.lt
  have hown : ∀ k, v.ownBlock = some k → k < w.heap.size := fun k e => hT.own e
  have KC : Hid (Kb ((w.alloc (.cells #[.int .i64 c.m, .int .i64 c.a, .int .i64 c.p, .int .i64 c.g, .int .i64 c.t, .int .i64 c.b, .int .i64 c.d] 24)).alloc (.cells (encO o).toArray 47)) t v w.heap.size (.cells #[.int .i64 c.m, .int .i64 c.a, .int .i64 c.p, .int .i64 c.g, .int .i64 c.t, .int .i64 c.b, .int .i64 c.d] 24)) := ⟨blk_alloc (blk_new w _) _, by omega, fun e => by have := hown _ e; omega⟩
  have KO : Hid (Kb ((w.alloc (.cells #[.int .i64 c.m, .int .i64 c.a, .int .i64 c.p, .int .i64 c.g, .int .i64 c.t, .int .i64 c.b, .int .i64 c.d] 24)).alloc (.cells (encO o).toArray 47)) t v (w.heap.size + 1) (.cells (encO o).toArray 47)) := ⟨by simpa using blk_new (w.alloc (.cells #[.int .i64 c.m, .int .i64 c.a, .int .i64 c.p, .int .i64 c.g, .int .i64 c.t, .int .i64 c.b, .int .i64 c.d] 24)) (.cells (encO o).toArray 47), by omega, fun e => by have := hown _ e; omega⟩
  have HMU : Hid (Moved w ((w.alloc (.cells #[.int .i64 c.m, .int .i64 c.a, .int .i64 c.p, .int .i64 c.g, .int .i64 c.t, .int .i64 c.b, .int .i64 c.d] 24)).alloc (.cells (encO o).toArray 47)) t v v) := Moved.of_below hbU
  have hUs : ((w.alloc (.cells #[.int .i64 c.m, .int .i64 c.a, .int .i64 c.p, .int .i64 c.g, .int .i64 c.t, .int .i64 c.b, .int .i64 c.d] 24)).alloc (.cells (encO o).toArray 47)).heap.size = w.heap.size + 1 + 1 := by simp
  have x0 : ((w.alloc (.cells #[.int .i64 c.m, .int .i64 c.a, .int .i64 c.p, .int .i64 c.g, .int .i64 c.t, .int .i64 c.b, .int .i64 c.d] 24)).alloc (.cells (encO o).toArray 47)).cell? ⟨w.heap.size + 1, 0, none⟩ = some (.int .i64 o.k) := blk_cell KO.out.1 rfl
  rw [hk] at x0
  have x15 : ((w.alloc (.cells #[.int .i64 c.m, .int .i64 c.a, .int .i64 c.p, .int .i64 c.g, .int .i64 c.t, .int .i64 c.b, .int .i64 c.d] 24)).alloc (.cells (encO o).toArray 47)).cell? ⟨w.heap.size + 1, 15, none⟩ = some (.int .u32 (o.h.s : Int)) := blk_cell KO.out.1 rfl
  have x16 : ((w.alloc (.cells #[.int .i64 c.m, .int .i64 c.a, .int .i64 c.p, .int .i64 c.g, .int .i64 c.t, .int .i64 c.b, .int .i64 c.d] 24)).alloc (.cells (encO o).toArray 47)).cell? ⟨w.heap.size + 1, 16, none⟩ = some (.int .u32 (o.h.d : Int)) := blk_cell KO.out.1 rfl
  have x17 : ((w.alloc (.cells #[.int .i64 c.m, .int .i64 c.a, .int .i64 c.p, .int .i64 c.g, .int .i64 c.t, .int .i64 c.b, .int .i64 c.d] 24)).alloc (.cells (encO o).toArray 47)).cell? ⟨w.heap.size + 1, 17, none⟩ = some (.int .u16 (o.h.p : Int)) := blk_cell KO.out.1 rfl
  have x18 : ((w.alloc (.cells #[.int .i64 c.m, .int .i64 c.a, .int .i64 c.p, .int .i64 c.g, .int .i64 c.t, .int .i64 c.b, .int .i64 c.d] 24)).alloc (.cells (encO o).toArray 47)).cell? ⟨w.heap.size + 1, 18, none⟩ = some (.int .u16 (o.h.q : Int)) := blk_cell KO.out.1 rfl
  have x19 : ((w.alloc (.cells #[.int .i64 c.m, .int .i64 c.a, .int .i64 c.p, .int .i64 c.g, .int .i64 c.t, .int .i64 c.b, .int .i64 c.d] 24)).alloc (.cells (encO o).toArray 47)).cell? ⟨w.heap.size + 1, 19, none⟩ = some (.int .u8 (o.h.r : Int)) := blk_cell KO.out.1 rfl
  have h1 := matchT t v c.m c.a L o.h _ HTU.out (by omega) (bd_at hbd) hO.2.2.2.2.1
  have hR2 := fun (W : World) (hs : SrcU W u L) => rmatchL u L c.a o.h W hs (by omega) (bd_at hbd) hO.2.2.2.2.1
  generalize mat L o.h = P at h1 hR2
  generalize vdH P = B1 at h1 hR2
  generalize vdI L P = B2 at h1 hR2
  generalize vdA c.a L P = B3 at h1 hR2
  have hEq := eqV_self B1 B2 B3
  have HF0 : Hid (∀ W, Below w.heap.size w W → StepPost w t v c.m c.a L (.returned (.tuple #[u, .bool true])) W) := fun W hb => ⟨u, v, L, rfl, hT.on hb, hD.on hb, Moved.of_below hb, .inl (Nat.le_succ _), hbd⟩
  have HBU : Hid (Below w.heap.size w ((w.alloc (.cells #[.int .i64 c.m, .int .i64 c.a, .int .i64 c.p, .int .i64 c.g, .int .i64 c.t, .int .i64 c.b, .int .i64 c.d] 24)).alloc (.cells (encO o).toArray 47))) := hbU
  clear hO hT hD hbU HMU HTU
  go_enter Try.func14, Try.ntmps14
  go_wp2_with (fail)
  refine h1.mono ?_
  rintro e W1 ⟨rfl, hb1⟩
  have HB1 : Hid (Below w.heap.size w W1) := HBU.out.trans (hb1.mono HBU.out.size)
  have HD1 : Hid (Dj W1 t v u L) := HDU.out.on hb1
  have KC1 : Hid (Kb W1 t v w.heap.size (.cells #[.int .i64 c.m, .int .i64 c.a, .int .i64 c.p, .int .i64 c.g, .int .i64 c.t, .int .i64 c.b, .int .i64 c.d] 24)) := KC.out.on hb1
  have KO1 : Hid (Kb W1 t v (w.heap.size + 1) (.cells (encO o).toArray 47)) := KO.out.on hb1
  have hW1 : w.heap.size + 1 < W1.heap.size := KO1.out.lt
  clear h1 hb1 HDU HBU KC KO x0
  clear x15 x16 x17 x18 x19
  have hbA : Below W1.heap.size W1 (W1.alloc (.cells #[.bool B1, .int .i64 B2, .int .i64 B3] 56)) := (Below.refl _ _).alloc (Nat.le_refl _) _
  have KV : Hid ((W1.alloc (.cells #[.bool B1, .int .i64 B2, .int .i64 B3] 56)).heap[W1.heap.size]? = some (.cells #[.bool B1, .int .i64 B2, .int .i64 B3] 56)) := blk_new W1 _
  have HBA : Hid (Below w.heap.size w (W1.alloc (.cells #[.bool B1, .int .i64 B2, .int .i64 B3] 56))) := HB1.out.trans (hbA.mono HB1.out.size)
  have hne1 : ¬ w.heap.size = W1.heap.size := by omega
  have hne2 : ¬ w.heap.size + 1 = W1.heap.size := by omega
  have h2 := hR2 (W1.alloc (.cells #[.bool B1, .int .i64 B2, .int .i64 B3] 56)) (HD1.out.on hbA).1
  clear hR2
  have x15 : (W1.alloc (.cells #[.bool B1, .int .i64 B2, .int .i64 B3] 56)).cell? ⟨w.heap.size + 1, 15, none⟩ = some (.int .u32 (o.h.s : Int)) := blk_cell (blk_alloc KO1.out.1 _) rfl
  have x16 : (W1.alloc (.cells #[.bool B1, .int .i64 B2, .int .i64 B3] 56)).cell? ⟨w.heap.size + 1, 16, none⟩ = some (.int .u32 (o.h.d : Int)) := blk_cell (blk_alloc KO1.out.1 _) rfl
  have x17 : (W1.alloc (.cells #[.bool B1, .int .i64 B2, .int .i64 B3] 56)).cell? ⟨w.heap.size + 1, 17, none⟩ = some (.int .u16 (o.h.p : Int)) := blk_cell (blk_alloc KO1.out.1 _) rfl
  have x18 : (W1.alloc (.cells #[.bool B1, .int .i64 B2, .int .i64 B3] 56)).cell? ⟨w.heap.size + 1, 18, none⟩ = some (.int .u16 (o.h.q : Int)) := blk_cell (blk_alloc KO1.out.1 _) rfl
  have x19 : (W1.alloc (.cells #[.bool B1, .int .i64 B2, .int .i64 B3] 56)).cell? ⟨w.heap.size + 1, 19, none⟩ = some (.int .u8 (o.h.r : Int)) := blk_cell (blk_alloc KO1.out.1 _) rfl
  have z1 : (W1.alloc (.cells #[.bool B1, .int .i64 B2, .int .i64 B3] 56)).cell? ⟨w.heap.size, 1, none⟩ = some (.int .i64 c.a) := blk_cell (blk_alloc KC1.out.1 _) rfl
  clear hbA
  go_wp2_with (fail)
  refine h2.mono ?_
  rintro e W2 ⟨rfl, hb2⟩
  have HB2 : Hid (Below w.heap.size w W2) := HBA.out.trans (hb2.mono HBA.out.size)
  obtain ⟨v0, v1, v2⟩ := blk3 (blk_on KV.out hb2)
  have hV2 : W1.heap.size < W2.heap.size := blk_lt (blk_on KV.out hb2)
  have hne3 : ¬ W1.heap.size = W2.heap.size := by omega
  have HF : Hid (StepPost w t v c.m c.a L (.returned (.tuple #[u, .bool true])) (W2.alloc (.cells #[.bool B1, .int .i64 B2, .int .i64 B3] 56))) := HF0.out _ (HB2.out.alloc HB2.out.size _)
  clear h2 hb2 HBA KV HB1 HD1 KC1 KO1 HF0 z1
  clear x15 x16 x17 x18 x19
  go_wp2_with (fail)
  refine bodyPost_ret (v := .tuple #[u, .bool true]) (by simp [results, Try.results14, go_sem]) rfl ?_
  exact HF.out
set_option maxRecDepth 100000 in
set_option maxHeartbeats 8000000 in
theorem step0C (t : Nat) (v : Value) (L : List Ru) (u : Value) (c : Cf) (o : Opp) (w0 w : World) (hT : Tab w t v c.m c.a L) (hD : Dj w t v u L) (hL : L.length ≤ 100000) (hbd : ∀ R ∈ L, BdR R) (hM : I64 c.m) (hB : Below w0.heap.size w0 w) (ht0 : w0.heap.size ≤ t) (hv0 : ∀ k, v.ownBlock = some k → w0.heap.size ≤ k) (hO : BdO w0 o) (hol : o.l.length ≤ 2000) (hk : ∀ j : Nat, 1 ≤ j → j ≤ 7 → o.k ≠ (j : Int)) :
    Calls Try.prog 14 #[.pointer (some ⟨t, 0, none⟩), u, .agg #[.int .i64 c.m, .int .i64 c.a, .int .i64 c.p, .int .i64 c.g, .int .i64 c.t, .int .i64 c.b, .int .i64 c.d], .agg (encO o).toArray] w fun e w' => StepPost w t v c.m c.a L e w' := by
  have hbU : Below w.heap.size w ((w.alloc (.cells #[.int .i64 c.m, .int .i64 c.a, .int .i64 c.p, .int .i64 c.g, .int .i64 c.t, .int .i64 c.b, .int .i64 c.d] 24)).alloc (.cells (encO o).toArray 47)) := ((Below.refl _ _).alloc (Nat.le_refl _) _).alloc (by simp) _
  have HTU : Hid (Tab ((w.alloc (.cells #[.int .i64 c.m, .int .i64 c.a, .int .i64 c.p, .int .i64 c.g, .int .i64 c.t, .int .i64 c.b, .int .i64 c.d] 24)).alloc (.cells (encO o).toArray 47)) t v c.m c.a L) := hT.on hbU
  have HDU : Hid (Dj ((w.alloc (.cells #[.int .i64 c.m, .int .i64 c.a, .int .i64 c.p, .int .i64 c.g, .int .i64 c.t, .int .i64 c.b, .int .i64 c.d] 24)).alloc (.cells (encO o).toArray 47)) t v u L) := hD.on hbU
  have hlt := hT.lt
  have hown : ∀ k, v.ownBlock = some k → k < w.heap.size := fun k e => hT.own e
  have KC : Hid (Kb ((w.alloc (.cells #[.int .i64 c.m, .int .i64 c.a, .int .i64 c.p, .int .i64 c.g, .int .i64 c.t, .int .i64 c.b, .int .i64 c.d] 24)).alloc (.cells (encO o).toArray 47)) t v w.heap.size (.cells #[.int .i64 c.m, .int .i64 c.a, .int .i64 c.p, .int .i64 c.g, .int .i64 c.t, .int .i64 c.b, .int .i64 c.d] 24)) := ⟨blk_alloc (blk_new w _) _, by omega, fun e => by have := hown _ e; omega⟩
  have KO : Hid (Kb ((w.alloc (.cells #[.int .i64 c.m, .int .i64 c.a, .int .i64 c.p, .int .i64 c.g, .int .i64 c.t, .int .i64 c.b, .int .i64 c.d] 24)).alloc (.cells (encO o).toArray 47)) t v (w.heap.size + 1) (.cells (encO o).toArray 47)) := ⟨by simpa using blk_new (w.alloc (.cells #[.int .i64 c.m, .int .i64 c.a, .int .i64 c.p, .int .i64 c.g, .int .i64 c.t, .int .i64 c.b, .int .i64 c.d] 24)) (.cells (encO o).toArray 47), by omega, fun e => by have := hown _ e; omega⟩
  have HMU : Hid (Moved w ((w.alloc (.cells #[.int .i64 c.m, .int .i64 c.a, .int .i64 c.p, .int .i64 c.g, .int .i64 c.t, .int .i64 c.b, .int .i64 c.d] 24)).alloc (.cells (encO o).toArray 47)) t v v) := Moved.of_below hbU
  have hUs : ((w.alloc (.cells #[.int .i64 c.m, .int .i64 c.a, .int .i64 c.p, .int .i64 c.g, .int .i64 c.t, .int .i64 c.b, .int .i64 c.d] 24)).alloc (.cells (encO o).toArray 47)).heap.size = w.heap.size + 1 + 1 := by simp
  have x0 : ((w.alloc (.cells #[.int .i64 c.m, .int .i64 c.a, .int .i64 c.p, .int .i64 c.g, .int .i64 c.t, .int .i64 c.b, .int .i64 c.d] 24)).alloc (.cells (encO o).toArray 47)).cell? ⟨w.heap.size + 1, 0, none⟩ = some (.int .i64 o.k) := blk_cell KO.out.1 rfl
  have n1 : ¬ o.k = 1 := hk 1 (by decide) (by decide)
  have n2 : ¬ o.k = 2 := hk 2 (by decide) (by decide)
  have n3 : ¬ o.k = 3 := hk 3 (by decide) (by decide)
  have n4 : ¬ o.k = 4 := hk 4 (by decide) (by decide)
  have n5 : ¬ o.k = 5 := hk 5 (by decide) (by decide)
  have n6 : ¬ o.k = 6 := hk 6 (by decide) (by decide)
  have n7 : ¬ o.k = 7 := hk 7 (by decide) (by decide)
  have h1 := toldC t v c.m c.a L u _ HTU.out HDU.out.1 (by omega) (bd_at hbd)
  have HF0 : Hid (∀ W, Below w.heap.size w W → StepPost w t v c.m c.a L (.returned (.tuple #[u, .bool true])) W) := fun W hb => ⟨u, v, L, rfl, hT.on hb, hD.on hb, Moved.of_below hb, .inl (Nat.le_succ _), hbd⟩
  have HBU : Hid (Below w.heap.size w ((w.alloc (.cells #[.int .i64 c.m, .int .i64 c.a, .int .i64 c.p, .int .i64 c.g, .int .i64 c.t, .int .i64 c.b, .int .i64 c.d] 24)).alloc (.cells (encO o).toArray 47))) := hbU
  clear hO hT hD hbU HMU HTU HDU hk
  go_enter Try.func14, Try.ntmps14
  go_wp2_with (fail)
  refine h1.mono ?_
  rintro e W1 ⟨rfl, hb1⟩
  have HF : Hid (StepPost w t v c.m c.a L (.returned (.tuple #[u, .bool true])) W1) := HF0.out _ (HBU.out.trans (hb1.mono HBU.out.size))
  clear h1 hb1 HBU HF0 KC KO x0
  go_wp2_with (fail)
  refine bodyPost_ret (v := .tuple #[u, .bool true]) (by simp [results, Try.results14, go_sem]) rfl ?_
  exact HF.out
set_option maxRecDepth 100000 in
set_option maxHeartbeats 8000000 in
theorem step5C (t : Nat) (v : Value) (L : List Ru) (u : Value) (c : Cf) (o : Opp) (w0 w : World) (hT : Tab w t v c.m c.a L) (hD : Dj w t v u L) (hL : L.length ≤ 100000) (hbd : ∀ R ∈ L, BdR R) (hM : I64 c.m) (hB : Below w0.heap.size w0 w) (ht0 : w0.heap.size ≤ t) (hv0 : ∀ k, v.ownBlock = some k → w0.heap.size ≤ k) (hO : BdO w0 o) (hol : o.l.length ≤ 2000) (hk : o.k = 5) :
    Calls Try.prog 14 #[.pointer (some ⟨t, 0, none⟩), u, .agg #[.int .i64 c.m, .int .i64 c.a, .int .i64 c.p, .int .i64 c.g, .int .i64 c.t, .int .i64 c.b, .int .i64 c.d], .agg (encO o).toArray] w fun e w' => StepPost w t v c.m c.a L e w' := by
  have hbU : Below w.heap.size w ((w.alloc (.cells #[.int .i64 c.m, .int .i64 c.a, .int .i64 c.p, .int .i64 c.g, .int .i64 c.t, .int .i64 c.b, .int .i64 c.d] 24)).alloc (.cells (encO o).toArray 47)) := ((Below.refl _ _).alloc (Nat.le_refl _) _).alloc (by simp) _
  have HTU : Hid (Tab ((w.alloc (.cells #[.int .i64 c.m, .int .i64 c.a, .int .i64 c.p, .int .i64 c.g, .int .i64 c.t, .int .i64 c.b, .int .i64 c.d] 24)).alloc (.cells (encO o).toArray 47)) t v c.m c.a L) := hT.on hbU
  have HDU : Hid (Dj ((w.alloc (.cells #[.int .i64 c.m, .int .i64 c.a, .int .i64 c.p, .int .i64 c.g, .int .i64 c.t, .int .i64 c.b, .int .i64 c.d] 24)).alloc (.cells (encO o).toArray 47)) t v u L) := hD.on hbU
  have hlt := hT.lt
  have hown : ∀ k, v.ownBlock = some k → k < w.heap.size := fun k e => hT.own e
  have KC : Hid (Kb ((w.alloc (.cells #[.int .i64 c.m, .int .i64 c.a, .int .i64 c.p, .int .i64 c.g, .int .i64 c.t, .int .i64 c.b, .int .i64 c.d] 24)).alloc (.cells (encO o).toArray 47)) t v w.heap.size (.cells #[.int .i64 c.m, .int .i64 c.a, .int .i64 c.p, .int .i64 c.g, .int .i64 c.t, .int .i64 c.b, .int .i64 c.d] 24)) := ⟨blk_alloc (blk_new w _) _, by omega, fun e => by have := hown _ e; omega⟩
  have KO : Hid (Kb ((w.alloc (.cells #[.int .i64 c.m, .int .i64 c.a, .int .i64 c.p, .int .i64 c.g, .int .i64 c.t, .int .i64 c.b, .int .i64 c.d] 24)).alloc (.cells (encO o).toArray 47)) t v (w.heap.size + 1) (.cells (encO o).toArray 47)) := ⟨by simpa using blk_new (w.alloc (.cells #[.int .i64 c.m, .int .i64 c.a, .int .i64 c.p, .int .i64 c.g, .int .i64 c.t, .int .i64 c.b, .int .i64 c.d] 24)) (.cells (encO o).toArray 47), by omega, fun e => by have := hown _ e; omega⟩
  have HMU : Hid (Moved w ((w.alloc (.cells #[.int .i64 c.m, .int .i64 c.a, .int .i64 c.p, .int .i64 c.g, .int .i64 c.t, .int .i64 c.b, .int .i64 c.d] 24)).alloc (.cells (encO o).toArray 47)) t v v) := Moved.of_below hbU
  have hUs : ((w.alloc (.cells #[.int .i64 c.m, .int .i64 c.a, .int .i64 c.p, .int .i64 c.g, .int .i64 c.t, .int .i64 c.b, .int .i64 c.d] 24)).alloc (.cells (encO o).toArray 47)).heap.size = w.heap.size + 1 + 1 := by simp
  have x0 : ((w.alloc (.cells #[.int .i64 c.m, .int .i64 c.a, .int .i64 c.p, .int .i64 c.g, .int .i64 c.t, .int .i64 c.b, .int .i64 c.d] 24)).alloc (.cells (encO o).toArray 47)).cell? ⟨w.heap.size + 1, 0, none⟩ = some (.int .i64 o.k) := blk_cell KO.out.1 rfl
  rw [hk] at x0
  have x2 : ((w.alloc (.cells #[.int .i64 c.m, .int .i64 c.a, .int .i64 c.p, .int .i64 c.g, .int .i64 c.t, .int .i64 c.b, .int .i64 c.d] 24)).alloc (.cells (encO o).toArray 47)).cell? ⟨w.heap.size + 1, 2, none⟩ = some (.int .i64 o.i) := blk_cell KO.out.1 rfl
  have hF1 : ∀ W, Below ((w.alloc (.cells #[.int .i64 c.m, .int .i64 c.a, .int .i64 c.p, .int .i64 c.g, .int .i64 c.t, .int .i64 c.b, .int .i64 c.d] 24)).alloc (.cells (encO o).toArray 47)).heap.size ((w.alloc (.cells #[.int .i64 c.m, .int .i64 c.a, .int .i64 c.p, .int .i64 c.g, .int .i64 c.t, .int .i64 c.b, .int .i64 c.d] 24)).alloc (.cells (encO o).toArray 47)) W → Calls Try.prog 24 #[.pointer (some ⟨t, 0, none⟩), .int .i64 o.i] W fun e w' => e = .returned (.int .i64 (fnd L o.i)) ∧ Below W.heap.size W w' := fun W hb => findC t v c.m c.a L o.i W (HTU.out.on hb) (by omega)
  have hF2 : ∀ W, Below ((w.alloc (.cells #[.int .i64 c.m, .int .i64 c.a, .int .i64 c.p, .int .i64 c.g, .int .i64 c.t, .int .i64 c.b, .int .i64 c.d] 24)).alloc (.cells (encO o).toArray 47)).heap.size ((w.alloc (.cells #[.int .i64 c.m, .int .i64 c.a, .int .i64 c.p, .int .i64 c.g, .int .i64 c.t, .int .i64 c.b, .int .i64 c.d] 24)).alloc (.cells (encO o).toArray 47)) W → Calls Try.prog 38 #[u, .int .i64 o.i] W fun e w' => e = .returned (.int .i64 (fnd L o.i)) ∧ Below W.heap.size W w' := fun W hb => rfindC u L o.i W (HDU.out.on hb).1 (by omega)
  generalize fnd L o.i = P at hF1 hF2
  have HF0 : Hid (∀ W, Below w.heap.size w W → StepPost w t v c.m c.a L (.returned (.tuple #[u, .bool true])) W) := fun W hb => ⟨u, v, L, rfl, hT.on hb, hD.on hb, Moved.of_below hb, .inl (Nat.le_succ _), hbd⟩
  have HBU : Hid (Below w.heap.size w ((w.alloc (.cells #[.int .i64 c.m, .int .i64 c.a, .int .i64 c.p, .int .i64 c.g, .int .i64 c.t, .int .i64 c.b, .int .i64 c.d] 24)).alloc (.cells (encO o).toArray 47))) := hbU
  clear hO hT hD hbU HMU HTU HDU
  have hlt2 : w.heap.size + 1 < ((w.alloc (.cells #[.int .i64 c.m, .int .i64 c.a, .int .i64 c.p, .int .i64 c.g, .int .i64 c.t, .int .i64 c.b, .int .i64 c.d] 24)).alloc (.cells (encO o).toArray 47)).heap.size := by omega
  go_enter Try.func14, Try.ntmps14
  go_upto_region 23 with (fail)
  generalize hUU : ((w.alloc (.cells #[.int .i64 c.m, .int .i64 c.a, .int .i64 c.p, .int .i64 c.g, .int .i64 c.t, .int .i64 c.b, .int .i64 c.d] 24)).alloc (.cells (encO o).toArray 47)) = UU at *
  have kne : Nonempty (Kin (UU)) := ⟨⟨_, Below.refl _ _⟩⟩
  have kc0 : ∀ y : Kin (UU), y.val.cell? ⟨w.heap.size + 1, 2, none⟩ = some (.int .i64 o.i) := fun y => by rw [kin_cell (by first | omega | (simp <;> omega))]; first | assumption | (simp [go_sem]; done) | simp [go_sem, *]
  refine wp_region_kin (UU) (Below.refl _ _) (by kernel_rfl) (by kernel_rfl) ?_
  repeat (go_big_quiet_step (first | (go_at_call 24; exact kin_call (hF1 _ (Kin.is _))) | (go_at_call 38; exact kin_call (hF2 _ (Kin.is _)))))
  refine wpQuiet_nil ?_
  rintro wq ⟨⟨xq, hxq⟩, hyq⟩
  have hq : Below (UU).heap.size (UU) wq := by rw [hyq]; exact hxq
  clear hyq hxq xq
  clear kne kc0
  obtain ⟨hcq, hfq⟩ := bcell hq
  have hzq := hq.size
  try simp at hzq
  have HF : Hid (StepPost w t v c.m c.a L (.returned (.tuple #[u, .bool true])) wq) := HF0.out _ (HBU.out.trans (hq.mono HBU.out.size))
  clear hq hcq hfq hzq hF1 hF2 HBU HF0 KC KO x0 x2
  go_wp2_with (fail)
  refine bodyPost_ret (v := .tuple #[u, .bool true]) (by simp [results, Try.results14, go_sem]) rfl ?_
  exact HF.out
end Go.Proofs.Ytlghbcdahnjcpaa
