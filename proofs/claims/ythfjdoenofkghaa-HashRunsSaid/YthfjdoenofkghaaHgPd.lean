/-
  Compare of header: what it hands back.
-/
import Derived.Test.YthfjdoenofkghaaHgPa
import Derived.Test.YthfjdoenofkghaaHdPc
import Derived.Test.YthfjdoenofkghaaHdK
import Derived.Deep.RegionHeld3
import Derived.Deep.MidRow
import Derived.Deep.DeepCutAuto
namespace Go.Proofs.Ythfjdoenofkghaa
open Go.RowKit
set_option linter.unusedVariables false
set_option linter.unusedSimpArgs false

/-- Two rows of 13 bytes. -/
def Two (w wx : World) (g k : Nat) (x y : List Nat) : Prop :=
  Bd w.heap.size w wx ∧ (∀ i (hi : i < x.length), wx.cell? ⟨g, 0 + i, none⟩ = some (.int .u8 ((x[i]'hi : Nat) : Int))) ∧ (∀ i (hi : i < y.length), wx.cell? ⟨k, 0 + i, none⟩ = some (.int .u8 ((y[i]'hi : Nat) : Int)))
theorem Two.fst {w wx : World} {g k : Nat} {x y : List Nat} (h : Two w wx g k x y) : ∀ i (hi : i < x.length), wx.cell? ⟨g, 0 + i, none⟩ = some (.int .u8 ((x[i]'hi : Nat) : Int)) := h.2.1
theorem Two.snd {w wx : World} {g k : Nat} {x y : List Nat} (h : Two w wx g k x y) : ∀ i (hi : i < y.length), wx.cell? ⟨k, 0 + i, none⟩ = some (.int .u8 ((y[i]'hi : Nat) : Int)) := h.2.2
theorem Two.below {w wx : World} {g k : Nat} {x y : List Nat} (h : Two w wx g k x y) : Bd w.heap.size w wx := h.1
theorem Two.on {w wx w1 : World} {g k : Nat} {x y : List Nat} (h : Two w wx g k x y) (q : Bd wx.heap.size wx w1) (hz : w.heap.size ≤ wx.heap.size) : Two w w1 g k x y :=
  ⟨h.1.trans (q.mono hz), fun i hi => cell_on1 q.toBelow (h.2.1 i hi), fun i hi => cell_on1 q.toBelow (h.2.2 i hi)⟩
/-- Thirteen bytes as values. -/
def vs13 (l : List Nat) : List Value := l.map fun n : Nat => Value.int .u8 (n : Int)
theorem range_cells {w : World} {g : Nat} {l : List Nat} (h : w.rangeAt g 0 (vs13 l)) : ∀ i (hi : i < l.length), w.cell? ⟨g, 0 + i, none⟩ = some (.int .u8 ((l[i]'hi : Nat) : Int)) := fun i hi => h i _ (by unfold vs13; rw [List.getElem?_map, List.getElem?_eq_getElem hi]; rfl)
theorem two_of {w W : World} {g k : Nat} {x y : List Nat} (hb : Bd w.heap.size w ((W.setCells g 0 (vs13 x)).setCells k 0 (vs13 y))) (tg : W.there g 0 (vs13 x).length) (tk : W.there k 0 (vs13 y).length) (hne : g ≠ k) : Two w ((W.setCells g 0 (vs13 x)).setCells k 0 (vs13 y)) g k x y :=
  ⟨hb, range_cells (World.rangeAt_setCells_apart (World.rangeAt_setCells_same W g 0 (vs13 x) tg) k 0 (vs13 y) (.inl hne)), range_cells (World.rangeAt_setCells_same _ k 0 (vs13 y) (World.there_setCells tk g 0 (vs13 x)))⟩
theorem there_on {W w1 : World} (q : Bd W.heap.size W w1) (g n : Nat) (h : W.there g 0 (n + 1)) : w1.there g 0 (n + 1) := by
  have h0 := (h 0 (by omega)).1
  obtain ⟨v, hv⟩ := Option.isSome_iff_exists.1 h0
  have hg : g < W.heap.size := World.block_lt_of_cell? _ _ hv
  exact fun j hj => ⟨by rw [q.cell hg]; exact (h j hj).1, by rw [q.frozen hg]; exact (h j hj).2⟩
theorem there_new (W : World) : (W.alloc (.cells #[.int .u8 0, .int .u8 0, .int .u8 0, .int .u8 0, .int .u8 0, .int .u8 0, .int .u8 0, .int .u8 0, .int .u8 0, .int .u8 0, .int .u8 0, .int .u8 0, .int .u8 0] 88)).there W.heap.size 0 13 := by
  intro j hj
  match j, hj with
  | 0, _ => exact ⟨by simp [go_sem], by simp [go_sem]⟩
  | 1, _ => exact ⟨by simp [go_sem], by simp [go_sem]⟩
  | 2, _ => exact ⟨by simp [go_sem], by simp [go_sem]⟩
  | 3, _ => exact ⟨by simp [go_sem], by simp [go_sem]⟩
  | 4, _ => exact ⟨by simp [go_sem], by simp [go_sem]⟩
  | 5, _ => exact ⟨by simp [go_sem], by simp [go_sem]⟩
  | 6, _ => exact ⟨by simp [go_sem], by simp [go_sem]⟩
  | 7, _ => exact ⟨by simp [go_sem], by simp [go_sem]⟩
  | 8, _ => exact ⟨by simp [go_sem], by simp [go_sem]⟩
  | 9, _ => exact ⟨by simp [go_sem], by simp [go_sem]⟩
  | 10, _ => exact ⟨by simp [go_sem], by simp [go_sem]⟩
  | 11, _ => exact ⟨by simp [go_sem], by simp [go_sem]⟩
  | 12, _ => exact ⟨by simp [go_sem], by simp [go_sem]⟩
/-- Two headers in their blocks. -/
def Hd2 (w : World) (a b : Hd) (w' : World) : Prop := Bd w.heap.size w w' ∧ w.heap.size + 1 < w'.heap.size ∧ w'.cell? ⟨w.heap.size, 0, none⟩ = some (.int .u32 (a.s : Int)) ∧ w'.cell? ⟨w.heap.size, 1, none⟩ = some (.int .u32 (a.d : Int)) ∧ w'.cell? ⟨w.heap.size, 2, none⟩ = some (.int .u16 (a.p : Int)) ∧ w'.cell? ⟨w.heap.size, 3, none⟩ = some (.int .u16 (a.q : Int)) ∧ w'.cell? ⟨w.heap.size, 4, none⟩ = some (.int .u8 (a.r : Int)) ∧ w'.cell? ⟨w.heap.size + 1, 0, none⟩ = some (.int .u32 (b.s : Int)) ∧ w'.cell? ⟨w.heap.size + 1, 1, none⟩ = some (.int .u32 (b.d : Int)) ∧ w'.cell? ⟨w.heap.size + 1, 2, none⟩ = some (.int .u16 (b.p : Int)) ∧ w'.cell? ⟨w.heap.size + 1, 3, none⟩ = some (.int .u16 (b.q : Int)) ∧ w'.cell? ⟨w.heap.size + 1, 4, none⟩ = some (.int .u8 (b.r : Int))
theorem Hd2.limbs {w w' : World} {a b : Hd} (h : Hd2 w a b w') : Hd2 w a b w' ∧ w.heap.size + 1 < w'.heap.size ∧ w'.cell? ⟨w.heap.size, 0, none⟩ = some (.int .u32 (a.s : Int)) ∧ w'.cell? ⟨w.heap.size, 1, none⟩ = some (.int .u32 (a.d : Int)) ∧ w'.cell? ⟨w.heap.size, 2, none⟩ = some (.int .u16 (a.p : Int)) ∧ w'.cell? ⟨w.heap.size, 3, none⟩ = some (.int .u16 (a.q : Int)) ∧ w'.cell? ⟨w.heap.size, 4, none⟩ = some (.int .u8 (a.r : Int)) ∧ w'.cell? ⟨w.heap.size + 1, 0, none⟩ = some (.int .u32 (b.s : Int)) ∧ w'.cell? ⟨w.heap.size + 1, 1, none⟩ = some (.int .u32 (b.d : Int)) ∧ w'.cell? ⟨w.heap.size + 1, 2, none⟩ = some (.int .u16 (b.p : Int)) ∧ w'.cell? ⟨w.heap.size + 1, 3, none⟩ = some (.int .u16 (b.q : Int)) ∧ w'.cell? ⟨w.heap.size + 1, 4, none⟩ = some (.int .u8 (b.r : Int)) := ⟨h, h.2⟩
theorem Hd2.drew {w w' : World} {a b : Hd} (h : Hd2 w a b w') : Hd2 w a b w'.drew := ⟨h.1.drew, h.2⟩
theorem Hd2.on {w w' w1 : World} {a b : Hd} (h : Hd2 w a b w') (q : Bd w'.heap.size w' w1) : Hd2 w a b w1 := by
  obtain ⟨h1, h2, e0, e1, e2, e3, e4, e5, e6, e7, e8, e9⟩ := h
  exact ⟨h1.trans (q.mono (by omega)), Nat.lt_of_lt_of_le h2 q.size, cell_on1 q.toBelow e0, cell_on1 q.toBelow e1, cell_on1 q.toBelow e2, cell_on1 q.toBelow e3, cell_on1 q.toBelow e4, cell_on1 q.toBelow e5, cell_on1 q.toBelow e6, cell_on1 q.toBelow e7, cell_on1 q.toBelow e8, cell_on1 q.toBelow e9⟩
theorem Hd2.on' {w w' w1 : World} {a b : Hd} (q : Bd w'.heap.size w' w1) (h : Hd2 w a b w') : Hd2 w a b w1 := h.on q
theorem Hd2.lt' {w w' w1 : World} {a b : Hd} (q : Bd w'.heap.size w' w1) (h : Hd2 w a b w') : w.heap.size + 1 < w1.heap.size := (h.on q).2.1
theorem Hd2.alloc {w w' : World} {a b : Hd} (h : Hd2 w a b w') (o : Obj) : Hd2 w a b (w'.alloc o) := h.on ((Bd.refl _ _).alloc (Nat.le_refl _) o)
theorem Hd2.set {w w' : World} {a b : Hd} (h : Hd2 w a b w') {g i : Nat} {v : Value} (hg : w.heap.size + 1 < g) : Hd2 w a b (w'.setCell ⟨g, i, none⟩ v) := by
  obtain ⟨h1, h2, e0, e1, e2, e3, e4, e5, e6, e7, e8, e9⟩ := h
  have k : ∀ (c j : Nat) (u : Value), c ≤ w.heap.size + 1 → w'.cell? ⟨c, j, none⟩ = some u → (w'.setCell ⟨g, i, none⟩ v).cell? ⟨c, j, none⟩ = some u := fun c j u hc hu => by
    rw [World.cell?_setCell_other _ _ _ _ (by first | (simp; done) | (simp; omega))]; exact hu
  exact ⟨h1.setCell (by show w.heap.size ≤ g; omega) _, by simpa using h2, k _ _ _ (by omega) e0, k _ _ _ (by omega) e1, k _ _ _ (by omega) e2, k _ _ _ (by omega) e3, k _ _ _ (by omega) e4, k _ _ _ (by omega) e5, k _ _ _ (by omega) e6, k _ _ _ (by omega) e7, k _ _ _ (by omega) e8, k _ _ _ (by omega) e9⟩
theorem Hd2.setCells {w : World} {a b : Hd} {g : Nat} (hg : w.heap.size + 1 < g) : ∀ (vs : List Value) (o : Nat) (w' : World), Hd2 w a b w' → Hd2 w a b (w'.setCells g o vs)
  | [], o, w', h => h
  | v :: vs, o, w', h => Hd2.setCells hg vs (o + 1) (w'.setCell ⟨g, o, none⟩ v) (h.set hg)
theorem Hd2.sets {w : World} {a b : Hd} {g : Nat} {vs : List Value} {o : Nat} {w' : World} (h : Hd2 w a b w') (hg : w.heap.size + 1 < g) : Hd2 w a b (w'.setCells g o vs) := Hd2.setCells hg vs o w' h
theorem Hd2.below {w w' : World} {a b : Hd} (h : Hd2 w a b w') : Bd w.heap.size w w' := h.1
theorem hd2_new (w : World) (a b : Hd) : Hd2 w a b ((w.alloc (.cells #[.int .u32 (a.s : Int), .int .u32 (a.d : Int), .int .u16 (a.p : Int), .int .u16 (a.q : Int), .int .u8 (a.r : Int)] 36)).alloc (.cells #[.int .u32 (b.s : Int), .int .u32 (b.d : Int), .int .u16 (b.p : Int), .int .u16 (b.q : Int), .int .u8 (b.r : Int)] 36)) := by
  refine ⟨by (repeat (first | assumption | exact Bd.refl _ _ | refine Bd.drew ?_ | refine Bd.drewN ?_ _ | refine Bd.setCell ?_ (by first | omega | (simp; done) | (simp; omega)) _ | refine Bd.alloc ?_ (by first | omega | (simp; done) | (simp; omega)) _)), by simp, ?_, ?_, ?_, ?_, ?_, ?_, ?_, ?_, ?_, ?_⟩ <;> simp [go_sem]
attribute [local irreducible] World.there Hd2 Two World.setCells World.setCell World.alloc
set_option maxRecDepth 20000 in
set_option maxHeartbeats 4000000 in
theorem cmpD : ∀ (a b : Hd) (w : World), OkH a → OkH b →
    Calls Try.prog 35 #[.agg #[.int .u32 (a.s : Int), .int .u32 (a.d : Int), .int .u16 (a.p : Int), .int .u16 (a.q : Int), .int .u8 (a.r : Int)], .agg #[.int .u32 (b.s : Int), .int .u32 (b.d : Int), .int .u16 (b.p : Int), .int .u16 (b.q : Int), .int .u8 (b.r : Int)]] w fun e w' => e = .returned (.int .i64 (cmpH a b)) ∧ Bd w.heap.size w w' := by
  intro a b w oa ob
  have ka := fun W => layT a W oa
  have kb := fun W => layT b W ob
  have hc : cmpH a b = if num (bytesH a) < num (bytesH b) then -1 else if num (bytesH b) < num (bytesH a) then 1 else 0 := by rw [num_bytes oa, num_bytes ob]; rfl
  have kc := fun (g k : Nat) (W : World) (h : Two w W g k (bytesH a) (bytesH b)) => bcmpT (bytesH a) (bytesH b) g k 13 13 W (bytesH_bd a) (bytesH_bd b) rfl rfl h.fst h.snd
  rw [← hc] at kc
  generalize cmpH a b = R at *
  have hla : (bytesH a).length = 13 := rfl
  have hlb : (bytesH b).length = 13 := rfl
  generalize bytesH a = x at *
  generalize bytesH b = y at *
  obtain ⟨a0, a1, a2, a3, a4, a5, a6, a7, a8, a9, b0, b1, b2, hxe⟩ := len13 hla
  obtain ⟨c0, c1, c2, c3, c4, c5, c6, c7, c8, c9, d0, d1, d2, hye⟩ := len13 hlb
  have vx : (.agg #[.int .u8 ((x.getD 0 0 : Nat) : Int), .int .u8 ((x.getD 1 0 : Nat) : Int), .int .u8 ((x.getD 2 0 : Nat) : Int), .int .u8 ((x.getD 3 0 : Nat) : Int), .int .u8 ((x.getD 4 0 : Nat) : Int), .int .u8 ((x.getD 5 0 : Nat) : Int), .int .u8 ((x.getD 6 0 : Nat) : Int), .int .u8 ((x.getD 7 0 : Nat) : Int), .int .u8 ((x.getD 8 0 : Nat) : Int), .int .u8 ((x.getD 9 0 : Nat) : Int), .int .u8 ((x.getD 10 0 : Nat) : Int), .int .u8 ((x.getD 11 0 : Nat) : Int), .int .u8 ((x.getD 12 0 : Nat) : Int)] : Value) = .agg #[.int .u8 (a0 : Int), .int .u8 (a1 : Int), .int .u8 (a2 : Int), .int .u8 (a3 : Int), .int .u8 (a4 : Int), .int .u8 (a5 : Int), .int .u8 (a6 : Int), .int .u8 (a7 : Int), .int .u8 (a8 : Int), .int .u8 (a9 : Int), .int .u8 (b0 : Int), .int .u8 (b1 : Int), .int .u8 (b2 : Int)] := by rw [hxe]; rfl
  have vy : (.agg #[.int .u8 ((y.getD 0 0 : Nat) : Int), .int .u8 ((y.getD 1 0 : Nat) : Int), .int .u8 ((y.getD 2 0 : Nat) : Int), .int .u8 ((y.getD 3 0 : Nat) : Int), .int .u8 ((y.getD 4 0 : Nat) : Int), .int .u8 ((y.getD 5 0 : Nat) : Int), .int .u8 ((y.getD 6 0 : Nat) : Int), .int .u8 ((y.getD 7 0 : Nat) : Int), .int .u8 ((y.getD 8 0 : Nat) : Int), .int .u8 ((y.getD 9 0 : Nat) : Int), .int .u8 ((y.getD 10 0 : Nat) : Int), .int .u8 ((y.getD 11 0 : Nat) : Int), .int .u8 ((y.getD 12 0 : Nat) : Int)] : Value) = .agg #[.int .u8 (c0 : Int), .int .u8 (c1 : Int), .int .u8 (c2 : Int), .int .u8 (c3 : Int), .int .u8 (c4 : Int), .int .u8 (c5 : Int), .int .u8 (c6 : Int), .int .u8 (c7 : Int), .int .u8 (c8 : Int), .int .u8 (c9 : Int), .int .u8 (d0 : Int), .int .u8 (d1 : Int), .int .u8 (d2 : Int)] := by rw [hye]; rfl
  have HX : Hid (([.int .u8 (a0 : Int), .int .u8 (a1 : Int), .int .u8 (a2 : Int), .int .u8 (a3 : Int), .int .u8 (a4 : Int), .int .u8 (a5 : Int), .int .u8 (a6 : Int), .int .u8 (a7 : Int), .int .u8 (a8 : Int), .int .u8 (a9 : Int), .int .u8 (b0 : Int), .int .u8 (b1 : Int), .int .u8 (b2 : Int)] : List Value) = vs13 x) := by show _ = _; rw [hxe]; rfl
  have HY : Hid (([.int .u8 (c0 : Int), .int .u8 (c1 : Int), .int .u8 (c2 : Int), .int .u8 (c3 : Int), .int .u8 (c4 : Int), .int .u8 (c5 : Int), .int .u8 (c6 : Int), .int .u8 (c7 : Int), .int .u8 (c8 : Int), .int .u8 (c9 : Int), .int .u8 (d0 : Int), .int .u8 (d1 : Int), .int .u8 (d2 : Int)] : List Value) = vs13 y) := by show _ = _; rw [hye]; rfl
  simp only [vx] at ka
  simp only [vy] at kb
  clear hxe hye vx vy hla hlb hc
  have H0 := hd2_new w a b
  have HW : Hid (((w.alloc (.cells #[.int .u32 (a.s : Int), .int .u32 (a.d : Int), .int .u16 (a.p : Int), .int .u16 (a.q : Int), .int .u8 (a.r : Int)] 36)).alloc (.cells #[.int .u32 (b.s : Int), .int .u32 (b.d : Int), .int .u16 (b.p : Int), .int .u16 (b.q : Int), .int .u8 (b.r : Int)] 36)).heap.size = w.heap.size + 2) := by show _ = _; simp
  go_enter Try.func35, Try.ntmps35
  go_upto_region 1 with (fail)
  generalize (w.alloc (.cells #[.int .u32 (a.s : Int), .int .u32 (a.d : Int), .int .u16 (a.p : Int), .int .u16 (a.q : Int), .int .u8 (a.r : Int)] 36)).alloc (.cells #[.int .u32 (b.s : Int), .int .u32 (b.d : Int), .int .u16 (b.p : Int), .int .u16 (b.q : Int), .int .u8 (b.r : Int)] 36) = W0 at *
  have hW0 : w.heap.size + 1 < W0.heap.size := by have := HW.out; omega
  go_cut [5, 6] (fun s u wx => ∃ g k : Nat, s = .pointer (some ⟨g, 0, none⟩) ∧ u = .pointer (some ⟨k, 0, none⟩) ∧ Hid (Two w wx g k x y))
  case first =>
    have hm1 : ∀ v ∈ ([.int .u8 (a0 : Int), .int .u8 (a1 : Int), .int .u8 (a2 : Int), .int .u8 (a3 : Int), .int .u8 (a4 : Int), .int .u8 (a5 : Int), .int .u8 (a6 : Int), .int .u8 (a7 : Int), .int .u8 (a8 : Int), .int .u8 (a9 : Int), .int .u8 (b0 : Int), .int .u8 (b1 : Int), .int .u8 (b2 : Int)] : List Value), v.oneCell' = true := by intro v hv; simp only [List.mem_cons, List.not_mem_nil, or_false] at hv; rcases hv with rfl | rfl | rfl | rfl | rfl | rfl | rfl | rfl | rfl | rfl | rfl | rfl | rfl <;> rfl
    have hm2 : ∀ v ∈ ([.int .u8 (c0 : Int), .int .u8 (c1 : Int), .int .u8 (c2 : Int), .int .u8 (c3 : Int), .int .u8 (c4 : Int), .int .u8 (c5 : Int), .int .u8 (c6 : Int), .int .u8 (c7 : Int), .int .u8 (c8 : Int), .int .u8 (c9 : Int), .int .u8 (d0 : Int), .int .u8 (d1 : Int), .int .u8 (d2 : Int)] : List Value), v.oneCell' = true := by intro v hv; simp only [List.mem_cons, List.not_mem_nil, or_false] at hv; rcases hv with rfl | rfl | rfl | rfl | rfl | rfl | rfl | rfl | rfl | rfl | rfl | rfl | rfl <;> rfl
    have hin : (Try.prog.info? 88).map (·.size) = some 13 := by kernel_rfl
    have hlA : ([.int .u8 (a0 : Int), .int .u8 (a1 : Int), .int .u8 (a2 : Int), .int .u8 (a3 : Int), .int .u8 (a4 : Int), .int .u8 (a5 : Int), .int .u8 (a6 : Int), .int .u8 (a7 : Int), .int .u8 (a8 : Int), .int .u8 (a9 : Int), .int .u8 (b0 : Int), .int .u8 (b1 : Int), .int .u8 (b2 : Int)] : List Value).length = 13 := rfl
    have hlB : ([.int .u8 (c0 : Int), .int .u8 (c1 : Int), .int .u8 (c2 : Int), .int .u8 (c3 : Int), .int .u8 (c4 : Int), .int .u8 (c5 : Int), .int .u8 (c6 : Int), .int .u8 (c7 : Int), .int .u8 (c8 : Int), .int .u8 (c9 : Int), .int .u8 (d0 : Int), .int .u8 (d1 : Int), .int .u8 (d2 : Int)] : List Value).length = 13 := rfl
    have r1 : ∀ W : World, (W.alloc (.cells #[.int .u8 0, .int .u8 0, .int .u8 0, .int .u8 0, .int .u8 0, .int .u8 0, .int .u8 0, .int .u8 0, .int .u8 0, .int .u8 0, .int .u8 0, .int .u8 0, .int .u8 0] 88)).there W.heap.size 0 13 := there_new
    have r2 : ∀ (W : World) (ob : Obj), ((W.alloc ob).alloc (.cells #[.int .u8 0, .int .u8 0, .int .u8 0, .int .u8 0, .int .u8 0, .int .u8 0, .int .u8 0, .int .u8 0, .int .u8 0, .int .u8 0, .int .u8 0, .int .u8 0, .int .u8 0] 88)).there (W.heap.size + 1) 0 13 := fun W ob => by have := there_new (W.alloc ob); simpa using this
    have r3 : ∀ W : World, (W.alloc (.cells #[.int .u8 0, .int .u8 0, .int .u8 0, .int .u8 0, .int .u8 0, .int .u8 0, .int .u8 0, .int .u8 0, .int .u8 0, .int .u8 0, .int .u8 0, .int .u8 0, .int .u8 0] 88)).drew.there W.heap.size 0 13 := fun W => (World.there_drew _ _ _ _).2 (there_new W)
    have r4 : ∀ (W : World) (ob : Obj), ((W.alloc ob).alloc (.cells #[.int .u8 0, .int .u8 0, .int .u8 0, .int .u8 0, .int .u8 0, .int .u8 0, .int .u8 0, .int .u8 0, .int .u8 0, .int .u8 0, .int .u8 0, .int .u8 0, .int .u8 0] 88)).drew.there (W.heap.size + 1) 0 13 := fun W ob => (World.there_drew _ _ _ _).2 (r2 W ob)
    have r7 : ∀ (W : World) (ob : Obj), ((W.alloc (.cells #[.int .u8 0, .int .u8 0, .int .u8 0, .int .u8 0, .int .u8 0, .int .u8 0, .int .u8 0, .int .u8 0, .int .u8 0, .int .u8 0, .int .u8 0, .int .u8 0, .int .u8 0] 88)).alloc ob).there W.heap.size 0 13 := fun W ob => World.there_alloc (there_new W) ob
    have r8 : ∀ (W : World) (ob : Obj), ((W.alloc (.cells #[.int .u8 0, .int .u8 0, .int .u8 0, .int .u8 0, .int .u8 0, .int .u8 0, .int .u8 0, .int .u8 0, .int .u8 0, .int .u8 0, .int .u8 0, .int .u8 0, .int .u8 0] 88)).alloc ob).drew.there W.heap.size 0 13 := fun W ob => (World.there_drew _ _ _ _).2 (r7 W ob)
    have r9 : ∀ (W : World) (ob : Obj) (b : Nat) (vs : List Value) (g : Nat), W.there g 0 13 → ((W.alloc ob).setCells b 0 vs).there g 0 13 := fun W ob b vs g h => World.there_setCells (World.there_alloc h ob) b 0 vs
    have r5 : ∀ (W : World) (ob : Obj) (g : Nat), W.there g 0 13 → (W.alloc ob).there g 0 13 := fun W ob g h => World.there_alloc h ob
    have r6 : ∀ (W : World) (b : Nat) (vs : List Value) (g : Nat), W.there g 0 13 → (W.setCells b 0 vs).there g 0 13 := fun W b vs g h => World.there_setCells h b 0 vs
    go_region_held3 (fun w' => Hd2 w a b w' ∧ w.heap.size + 1 < w'.heap.size ∧ w'.cell? ⟨w.heap.size, 0, none⟩ = some (.int .u32 (a.s : Int)) ∧ w'.cell? ⟨w.heap.size, 1, none⟩ = some (.int .u32 (a.d : Int)) ∧ w'.cell? ⟨w.heap.size, 2, none⟩ = some (.int .u16 (a.p : Int)) ∧ w'.cell? ⟨w.heap.size, 3, none⟩ = some (.int .u16 (a.q : Int)) ∧ w'.cell? ⟨w.heap.size, 4, none⟩ = some (.int .u8 (a.r : Int)) ∧ w'.cell? ⟨w.heap.size + 1, 0, none⟩ = some (.int .u32 (b.s : Int)) ∧ w'.cell? ⟨w.heap.size + 1, 1, none⟩ = some (.int .u32 (b.d : Int)) ∧ w'.cell? ⟨w.heap.size + 1, 2, none⟩ = some (.int .u16 (b.p : Int)) ∧ w'.cell? ⟨w.heap.size + 1, 3, none⟩ = some (.int .u16 (b.q : Int)) ∧ w'.cell? ⟨w.heap.size + 1, 4, none⟩ = some (.int .u8 (b.r : Int))) ((refine Hd2.limbs ?_; (repeat (first | (with_reducible assumption) | (with_reducible exact (‹Hd2 w a b _ ∧ _›).1) | (with_reducible refine Hd2.drew ?_) | (with_reducible refine Hd2.alloc ?_ _) | (with_reducible refine Hd2.sets ?_ ?_) | omega | (with_reducible refine Hd2.on' q1 ?_) | assumption | exact (‹Hd2 w a b _ ∧ _›).1)))) (first | (go_at_call_of 39 (Hd.s a); refine (ka _).mono ?_; rintro e w1 ⟨rfl, q1⟩; have qz1 := q1.size; have qa8 : ∀ g, World.there _ g 0 13 → World.there w1 g 0 13 := fun g h => there_on q1 g 12 h; have q9 : w.heap.size + 1 < w1.heap.size := Hd2.lt' q1 (by first | assumption | exact And.left ‹Hd2 w a b _ ∧ _›); obtain ⟨q3, q4⟩ := bcell q1.toBelow) | (go_at_call_of 39 (Hd.s b); refine (kb _).mono ?_; rintro e w2 ⟨rfl, q1⟩; have qz2 := q1.size; have qb8 : ∀ g, World.there _ g 0 13 → World.there w2 g 0 13 := fun g h => there_on q1 g 12 h; have q10 : ∀ g, World.there _ g 0 13 → World.there w2 g 0 13 := fun g h => qb8 g (by first | exact qa8 g h | exact World.there_alloc (qa8 g h) _ | exact World.there_alloc (World.there_alloc (qa8 g h) _) _); have q9 : w.heap.size + 1 < w2.heap.size := Hd2.lt' q1 (by first | assumption | exact And.left ‹Hd2 w a b _ ∧ _›); obtain ⟨q3, q4⟩ := bcell q1.toBelow))
    all_goals
      have HH : Hid (Hd2 w a b _) := (‹Hd2 w a b _ ∧ _›).1
      go_wp2_with (fail)
      go_meet
      case rel =>
        refine ⟨_, _, rfl, rfl, ?_⟩
        show Two _ _ _ _ _ _
        have HB := HH.out.below
        have hlx : (vs13 x).length = 13 := by rw [← HX.out]; rfl
        have hly : (vs13 y).length = 13 := by rw [← HY.out]; rfl
        rw [HX.out, HY.out] at HB ⊢
        refine two_of HB (by rw [hlx]; simp (config := { maxDischargeDepth := 9 }) only [*]) (by rw [hly]; simp (config := { maxDischargeDepth := 9 }) only [*]) ?_
        (try simp only [World.size_alloc, World.size_drew] at qz1)
        (try simp only [World.size_alloc, World.size_drew] at qz2)
        omega
  case rest =>
    obtain ⟨g, k, rfl, rfl, HT⟩ := hcut
    have hzc : w.heap.size ≤ wc.heap.size := HT.out.below.size
    go_upto_region 2 with (fail)
    have kc2 := fun n => kc g k (wc.drewN n) (Two.on HT.out ((Bd.refl _ _).drewN n) hzc)
    go_quiet (first | (go_at_call 40; refine Calls.quiet_of_same (kc2 _)))
    go_wp2
    go_ret
    exact ⟨rfl, HT.out.below.drewN _⟩
end Go.Proofs.Ythfjdoenofkghaa
