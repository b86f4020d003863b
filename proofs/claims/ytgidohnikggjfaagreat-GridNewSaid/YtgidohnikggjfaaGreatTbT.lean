/-
  A table in memory; what its calls that only read tell: New, Find, At, Rules, Clone.
-/
import Derived.Test.YtgidohnikggjfaaGreatTbB
namespace Go.Proofs.YtgidohnikggjfaaGreat
open Go.RowKit
set_option linter.unusedVariables false
set_option linter.unusedSimpArgs false

/-- The table in block t: Max, Default, its rules in the row v. -/
def Tab (w : World) (t : Nat) (v : Value) (M A : Int) (l : List Ru) : Prop :=
  w.heap[t]? = some (.cells #[.int .i64 M, .int .i64 A, v] 102 (0, 0)) ∧ RowU w 0 v l ∧ v.ownBlock ≠ some t
theorem Tab.on {w w1 : World} {t : Nat} {v : Value} {M A : Int} {l : List Ru} (h : Tab w t v M A l) (hb : Below w.heap.size w w1) : Tab w1 t v M A l :=
  ⟨blk_on h.1 hb, h.2.1.on hb, h.2.2⟩
theorem Tab.lt {w : World} {t : Nat} {v : Value} {M A : Int} {l : List Ru} (h : Tab w t v M A l) : t < w.heap.size := blk_lt h.1
theorem Tab.own {w : World} {t : Nat} {v : Value} {M A : Int} {l : List Ru} (h : Tab w t v M A l) {k : Nat} (e : v.ownBlock = some k) : k < w.heap.size := (h.2.1.lt k e).2
/-- What a call that writes the table leaves as it was; v: its row ahead, v': behind. -/
structure Moved (w w' : World) (t : Nat) (v v' : Value) : Prop where
  os : w'.os = w.os
  tape : w'.tape = w.tape
  output : w'.output = w.output
  size : w.heap.size ≤ w'.heap.size
  block : ∀ k, k < w.heap.size → k ≠ t → v.ownBlock ≠ some k → w'.heap[k]? = w.heap[k]?
  own : ∀ k, v'.ownBlock = some k → v.ownBlock = some k ∨ w.heap.size ≤ k
theorem Moved.of_below {w w' : World} {t : Nat} {v : Value} (h : Below w.heap.size w w') : Moved w w' t v v :=
  ⟨h.os, h.tape, h.output, h.size, fun k hk _ _ => h.block k hk, fun k e => .inl e⟩
theorem Moved.below {w w' : World} {t B : Nat} {v v' : Value} (h : Moved w w' t v v') (hB : B ≤ w.heap.size) (ht : B ≤ t) (hv : ∀ k, v.ownBlock = some k → B ≤ k) : Below B w w' :=
  ⟨h.os, h.tape, h.output, h.size, fun k hk => h.block k (by omega) (by omega) (fun e => by have := hv k e; omega)⟩
theorem Moved.below' {w w0 w' : World} {t B : Nat} {v v' : Value} (h : Moved w w' t v v') (hb : Below B w0 w) (hB : B ≤ w.heap.size) (ht : B ≤ t) (hv : ∀ k, v.ownBlock = some k → B ≤ k) : Below B w0 w' := hb.trans (h.below hB ht hv)
theorem Moved.ge {w w' : World} {t B : Nat} {v v' : Value} (h : Moved w w' t v v') (hB : B ≤ w.heap.size) (hv : ∀ k, v.ownBlock = some k → B ≤ k) : ∀ k, v'.ownBlock = some k → B ≤ k := fun k e => by
  rcases h.own k e with h1 | h1
  · exact hv k h1
  · omega
theorem Moved.trans {w w1 w2 : World} {t : Nat} {v v1 v2 : Value} (h : Moved w w1 t v v1) (g : Moved w1 w2 t v1 v2) : Moved w w2 t v v2 :=
  ⟨g.os.trans h.os, g.tape.trans h.tape, g.output.trans h.output, Nat.le_trans h.size g.size, fun k hk ht hv => by
    rw [g.block k (Nat.lt_of_lt_of_le hk h.size) ht (fun e => by rcases h.own k e with h1 | h1
                                                                 · exact hv h1
                                                                 · omega), h.block k hk ht hv], fun k e => by
    rcases g.own k e with h1 | h1
    · exact h.own k h1
    · exact .inr (Nat.le_trans h.size h1)⟩
/-- A block that is neither the table's nor its row's. -/
def Kb (w : World) (t : Nat) (v : Value) (B : Nat) (o : Obj) : Prop := w.heap[B]? = some o ∧ B ≠ t ∧ v.ownBlock ≠ some B
theorem Kb.lt {w : World} {t : Nat} {v : Value} {B : Nat} {o : Obj} (h : Kb w t v B o) : B < w.heap.size := blk_lt h.1
theorem Kb.moved {w w' : World} {t : Nat} {v v' : Value} {B : Nat} {o : Obj} (h : Kb w t v B o) (m : Moved w w' t v v') : Kb w' t v' B o := by
  refine ⟨by rw [m.block B h.lt h.2.1 h.2.2]; exact h.1, h.2.1, fun e => ?_⟩
  rcases m.own B e with h1 | h1
  · exact h.2.2 h1
  · have := h.lt; omega
theorem Kb.on {w w1 : World} {t : Nat} {v : Value} {B : Nat} {o : Obj} (h : Kb w t v B o) (hb : Below w.heap.size w w1) : Kb w1 t v B o := ⟨blk_on h.1 hb, h.2.1, h.2.2⟩
/-- A source whose block is neither the table's nor its row's. -/
def Ks (w : World) (t : Nat) (v : Value) (u : Value) (l : List Ru) : Prop := SrcU w u l ∧ ∀ k, u.ownBlock = some k → k < w.heap.size → k ≠ t ∧ v.ownBlock ≠ some k
theorem Ks.moved {w w' : World} {t : Nat} {v v' u : Value} {l : List Ru} (h : Ks w t v u l) (m : Moved w w' t v v') (hz : ∀ k, u.ownBlock = some k → k < w.heap.size) : Ks w' t v' u l :=
  ⟨h.1.stay (fun k e hk => m.block k hk (h.2 k e hk).1 (h.2 k e hk).2), fun k e _ => ⟨(h.2 k e (hz k e)).1, fun e' => by
    rcases m.own k e' with h1 | h1
    · exact (h.2 k e (hz k e)).2 h1
    · have := hz k e; omega⟩⟩
set_option maxHeartbeats 1000000 in
theorem newOk (c : Cf) (o : BdC c) (h : okC c = true) (w : World) : Calls Tryz.prog 15 #[.agg #[.int .i64 c.m, .int .i64 c.a, .int .i64 c.p, .int .i64 c.g, .int .i64 c.t, .int .i64 c.b, .int .i64 c.d]] w fun e w' =>
    ∃ t : Nat, e = .returned (.tuple #[.pointer (some ⟨t, 0, none⟩), .int .i64 0]) ∧ Tab w' t (.slice none 0 0) c.m c.a [] ∧ w.heap.size ≤ t ∧ Below w.heap.size w w' := by
  have hC := checkCC c o (w.alloc (.cells #[.int .i64 c.m, .int .i64 c.a, .int .i64 c.p, .int .i64 c.g, .int .i64 c.t, .int .i64 c.b, .int .i64 c.d] 24))
  rw [show errC c = 0 by unfold errC; rw [h]; rfl] at hC
  clear h o
  go_enter Tryz.func15, Tryz.ntmps15
  go_wp2_with (fail)
  refine hC.mono ?_
  rintro e w1 ⟨rfl, hb1⟩
  have HB1 : Hid (Below w.heap.size w w1) := ((Below.refl _ _).alloc (Nat.le_refl _) _).trans (hb1.mono (by simp))
  have x0 : w1.cell? ⟨w.heap.size, 0, none⟩ = some (.int .i64 c.m) := cell_on1 hb1 (blk_cell (blk_new w _) rfl)
  have x1 : w1.cell? ⟨w.heap.size, 1, none⟩ = some (.int .i64 c.a) := cell_on1 hb1 (blk_cell (blk_new w _) rfl)
  clear hb1 hC
  go_wp2_with (fail)
  refine bodyPost_ret (v := .tuple #[.pointer (some ⟨w1.heap.size, 0, none⟩), .int .i64 0]) (by simp [results, Tryz.results15, go_sem]) rfl ?_
  exact ⟨_, rfl, ⟨blk_new w1 _, RowU.nil _ _, by simp [Value.ownBlock]⟩, HB1.out.size, HB1.out.alloc HB1.out.size _⟩
theorem newBad (c : Cf) (o : BdC c) (h : okC c = false) (w : World) : Calls Tryz.prog 15 #[.agg #[.int .i64 c.m, .int .i64 c.a, .int .i64 c.p, .int .i64 c.g, .int .i64 c.t, .int .i64 c.b, .int .i64 c.d]] w fun e w' =>
    e = .returned (.tuple #[.pointer none, .int .i64 110]) ∧ Below w.heap.size w w' := by
  have hC := checkCC c o (w.alloc (.cells #[.int .i64 c.m, .int .i64 c.a, .int .i64 c.p, .int .i64 c.g, .int .i64 c.t, .int .i64 c.b, .int .i64 c.d] 24))
  rw [show errC c = 110 by unfold errC; rw [h]; rfl] at hC
  clear h o
  go_enter Tryz.func15, Tryz.ntmps15
  go_wp2_with (fail)
  refine hC.mono ?_
  rintro e w1 ⟨rfl, hb1⟩
  have HB1 : Hid (Below w.heap.size w w1) := ((Below.refl _ _).alloc (Nat.le_refl _) _).trans (hb1.mono (by simp))
  clear hb1 hC
  go_wp2_with (fail)
  refine bodyPost_ret (v := .tuple #[.pointer none, .int .i64 110]) (by simp [results, Tryz.results15, go_sem]) rfl ?_
  exact ⟨rfl, HB1.out⟩
theorem blk3 {w : World} {B : Nat} {v0 v1 v2 : Value} {t : TypeId} {fr : Nat × Nat} (h : w.heap[B]? = some (.cells #[v0, v1, v2] t fr)) : w.cell? ⟨B, 0, none⟩ = some v0 ∧ w.cell? ⟨B, 1, none⟩ = some v1 ∧ w.cell? ⟨B, 2, none⟩ = some v2 := ⟨blk_cell h rfl, blk_cell h rfl, blk_cell h rfl⟩
theorem findC (t : Nat) (v : Value) (M A : Int) (l : List Ru) (x : Int) (w : World) (h : Tab w t v M A l) (hl : l.length ≤ 200000) :
    Calls Tryz.prog 150 #[.pointer (some ⟨t, 0, none⟩), .int .i64 x] w fun e w' => e = .returned (.int .i64 (fnd l x)) ∧ Below w.heap.size w w' := by
  have hP := placeOfC v l x w h.2.1.src hl
  obtain ⟨c0, c1, c2⟩ := blk3 h.1
  generalize fnd l x = F at *
  obtain ⟨ad, cap, rfl, hcap, hat⟩ := h.2.1.src
  clear hat h
  generalize l.length = n at *
  go_enter Tryz.func150, Tryz.ntmps150
  go_wp2_with (fail)
  refine hP.mono ?_
  rintro e w1 ⟨rfl, hb1⟩
  have HB1 : Hid (Below w.heap.size w w1) := hb1
  clear hb1 hP c0 c1 c2
  go_wp2_with (fail)
  go_ret
  exact ⟨rfl, HB1.out⟩
theorem rulesC (t : Nat) (v : Value) (M A : Int) (l : List Ru) (w : World) (h : Tab w t v M A l) (hl : l.length ≤ 200000) :
    Calls Tryz.prog 53 #[.pointer (some ⟨t, 0, none⟩)] w fun e w' => ∃ v' : Value, e = .returned v' ∧ RowU w' w.heap.size v' l ∧ Below w.heap.size w w' := by
  have hP := copyOfC v l w h.2.1.src hl
  obtain ⟨c0, c1, c2⟩ := blk3 h.1
  obtain ⟨ad, cap, rfl, hcap, hat⟩ := h.2.1.src
  obtain ⟨n, hn⟩ : ∃ n, n = l.length := ⟨_, rfl⟩
  rw [← hn] at hP c2
  clear hat h hn
  go_enter Tryz.func53, Tryz.ntmps53
  go_wp2_with (fail)
  refine hP.mono ?_
  rintro e w1 ⟨v', rfl, hr1, hb1⟩
  have HB1 : Hid (Below w.heap.size w w1) := hb1
  have HR1 : Hid (RowU w1 w.heap.size v' l) := hr1
  clear hb1 hr1 hP c0 c1 c2
  go_wp2_with (fail)
  go_ret
  exact ⟨_, rfl, HR1.out, HB1.out⟩
theorem at_out (t : Nat) (v : Value) (M A : Int) (l : List Ru) (p : Int) (w : World) (h : Tab w t v M A l) (hl : l.length ≤ 200000) (hp : ¬ (0 ≤ p ∧ p ≤ (l.length : Int) - 1)) :
    Calls Tryz.prog 38 #[.pointer (some ⟨t, 0, none⟩), .int .i64 p] w fun e w' => e = .returned (.tuple #[.agg #[.int .i64 0, .int .u32 0, .int .i64 0, .int .u32 0, .int .i64 0, .int .u16 0, .int .u16 0, .int .u16 0, .int .u16 0, .int .u8 0, .int .u8 0, .int .i64 0], .int .i64 112]) ∧ Below w.heap.size w w' := by
  have hA := fun W => amongC p 0 ((l.length : Int) - 1) W
  rw [show amg p 0 ((l.length : Int) - 1) = false by rw [Bool.eq_false_iff]; exact fun e => hp (amg_iff.1 e)] at hA
  have h1 := h.on ((Below.refl _ _).alloc (Nat.le_refl _) (.cells #[.int .i64 0, .int .u32 0, .int .i64 0, .int .u32 0, .int .i64 0, .int .u16 0, .int .u16 0, .int .u16 0, .int .u16 0, .int .u8 0, .int .u8 0, .int .i64 0] 64))
  obtain ⟨c0, c1, c2⟩ := blk3 h1.1
  have hlt := h.lt
  have hne : ¬ t = w.heap.size := by omega
  obtain ⟨ad, cap, rfl, hcap, hat⟩ := h.2.1.src
  clear hat h h1 hp
  generalize l.length = n at *
  have hn0 : (n : Int) ≤ 200000 := by omega
  go_enter Tryz.func38, Tryz.ntmps38
  go_wp2_with (fail)
  refine (hA _).mono ?_
  rintro e w1 ⟨rfl, hw⟩
  obtain rfl := hw.symm
  clear hw
  have hZZ := blk_new w (.cells #[.int .i64 0, .int .u32 0, .int .i64 0, .int .u32 0, .int .i64 0, .int .u16 0, .int .u16 0, .int .u16 0, .int .u16 0, .int .u8 0, .int .u8 0, .int .i64 0] 64)
  go_wp2_with (refine wpList_store_blk rfl 64 (.tmp 4) (.tmp 18) rfl w.heap.size 0 #[.int .i64 0, .int .u32 0, .int .i64 0, .int .u32 0, .int .i64 0, .int .u16 0, .int .u16 0, .int .u16 0, .int .u16 0, .int .u8 0, .int .u8 0, .int .i64 0] #[.int .i64 0, .int .u32 0, .int .i64 0, .int .u32 0, .int .i64 0, .int .u16 0, .int .u16 0, .int .u16 0, .int .u16 0, .int .u8 0, .int .u8 0, .int .i64 0] rfl rfl 64 _ hZZ (Nat.le_of_ble_eq_true rfl) rfl (by kernel_rfl) rfl ?_; intro w8 hw8 how8)
  exact bodyPost_ret (results_blk2 Tryz.results38 rfl hw8 Tryz.underlying64 rfl (by kernel_rfl)) rfl ⟨rfl, ((Below.refl _ _).alloc (Nat.le_refl _) _).trans (how8.below (Nat.le_refl _))⟩
set_option maxRecDepth 20000 in
set_option maxHeartbeats 2000000 in
theorem at_in (t : Nat) (v : Value) (M A : Int) (l : List Ru) (k : Nat) (w : World) (h : Tab w t v M A l) (hl : l.length ≤ 200000) (hk : k < l.length) (p : Ru) (hp : p = l[k]'hk) :
    Calls Tryz.prog 38 #[.pointer (some ⟨t, 0, none⟩), .int .i64 (k : Int)] w fun e w' => e = .returned (.tuple #[.agg #[.int .i64 p.i, .int .u32 (p.s : Int), .int .i64 p.sl, .int .u32 (p.d : Int), .int .i64 p.dl, .int .u16 (p.p.1 : Int), .int .u16 (p.p.2 : Int), .int .u16 (p.q.1 : Int), .int .u16 (p.q.2 : Int), .int .u8 (p.m.1 : Int), .int .u8 (p.m.2 : Int), .int .i64 p.act], .int .i64 0]) ∧ Below w.heap.size w w' := by
  have hA := fun W => amongC (k : Int) 0 ((l.length : Int) - 1) W
  rw [show amg (k : Int) 0 ((l.length : Int) - 1) = true from amg_iff.2 (by omega)] at hA
  have h1 := h.on ((Below.refl _ _).alloc (Nat.le_refl _) (.cells #[.int .i64 0, .int .u32 0, .int .i64 0, .int .u32 0, .int .i64 0, .int .u16 0, .int .u16 0, .int .u16 0, .int .u16 0, .int .u8 0, .int .u8 0, .int .i64 0] 64))
  obtain ⟨c0, c1, c2⟩ := blk3 h1.1
  have hlt := h.lt
  have hne : ¬ t = w.heap.size := by omega
  obtain ⟨ad, cap, rfl, hcap, hat⟩ := h1.2.1.form
  obtain ⟨g, rfl, _, hg, hc⟩ := hat (by omega)
  have hc1 := hc k hk
  rw [← hp] at hc1
  clear hc hat
  obtain ⟨n, hn⟩ : ∃ n, n = l.length := ⟨_, rfl⟩
  rw [← hn] at hA c2 hcap hl hk
  have hlt' : (k : Int) < (n : Int) := by omega
  have hn0 : (n : Int) ≤ 200000 := by omega
  have x0 : (w.alloc (.cells #[.int .i64 0, .int .u32 0, .int .i64 0, .int .u32 0, .int .i64 0, .int .u16 0, .int .u16 0, .int .u16 0, .int .u16 0, .int .u8 0, .int .u8 0, .int .i64 0] 64)).cell? ⟨g, k * 12, none⟩ = some (.int .i64 p.i) := hc1 0 (by decide)
  have x1 : (w.alloc (.cells #[.int .i64 0, .int .u32 0, .int .i64 0, .int .u32 0, .int .i64 0, .int .u16 0, .int .u16 0, .int .u16 0, .int .u16 0, .int .u8 0, .int .u8 0, .int .i64 0] 64)).cell? ⟨g, k * 12 + 1, none⟩ = some (.int .u32 (p.s : Int)) := hc1 1 (by decide)
  have x2 : (w.alloc (.cells #[.int .i64 0, .int .u32 0, .int .i64 0, .int .u32 0, .int .i64 0, .int .u16 0, .int .u16 0, .int .u16 0, .int .u16 0, .int .u8 0, .int .u8 0, .int .i64 0] 64)).cell? ⟨g, k * 12 + 2, none⟩ = some (.int .i64 p.sl) := hc1 2 (by decide)
  have x3 : (w.alloc (.cells #[.int .i64 0, .int .u32 0, .int .i64 0, .int .u32 0, .int .i64 0, .int .u16 0, .int .u16 0, .int .u16 0, .int .u16 0, .int .u8 0, .int .u8 0, .int .i64 0] 64)).cell? ⟨g, k * 12 + 3, none⟩ = some (.int .u32 (p.d : Int)) := hc1 3 (by decide)
  have x4 : (w.alloc (.cells #[.int .i64 0, .int .u32 0, .int .i64 0, .int .u32 0, .int .i64 0, .int .u16 0, .int .u16 0, .int .u16 0, .int .u16 0, .int .u8 0, .int .u8 0, .int .i64 0] 64)).cell? ⟨g, k * 12 + 4, none⟩ = some (.int .i64 p.dl) := hc1 4 (by decide)
  have x5 : (w.alloc (.cells #[.int .i64 0, .int .u32 0, .int .i64 0, .int .u32 0, .int .i64 0, .int .u16 0, .int .u16 0, .int .u16 0, .int .u16 0, .int .u8 0, .int .u8 0, .int .i64 0] 64)).cell? ⟨g, k * 12 + 5, none⟩ = some (.int .u16 (p.p.1 : Int)) := hc1 5 (by decide)
  have x6 : (w.alloc (.cells #[.int .i64 0, .int .u32 0, .int .i64 0, .int .u32 0, .int .i64 0, .int .u16 0, .int .u16 0, .int .u16 0, .int .u16 0, .int .u8 0, .int .u8 0, .int .i64 0] 64)).cell? ⟨g, k * 12 + 6, none⟩ = some (.int .u16 (p.p.2 : Int)) := hc1 6 (by decide)
  have x7 : (w.alloc (.cells #[.int .i64 0, .int .u32 0, .int .i64 0, .int .u32 0, .int .i64 0, .int .u16 0, .int .u16 0, .int .u16 0, .int .u16 0, .int .u8 0, .int .u8 0, .int .i64 0] 64)).cell? ⟨g, k * 12 + 7, none⟩ = some (.int .u16 (p.q.1 : Int)) := hc1 7 (by decide)
  have x8 : (w.alloc (.cells #[.int .i64 0, .int .u32 0, .int .i64 0, .int .u32 0, .int .i64 0, .int .u16 0, .int .u16 0, .int .u16 0, .int .u16 0, .int .u8 0, .int .u8 0, .int .i64 0] 64)).cell? ⟨g, k * 12 + 8, none⟩ = some (.int .u16 (p.q.2 : Int)) := hc1 8 (by decide)
  have x9 : (w.alloc (.cells #[.int .i64 0, .int .u32 0, .int .i64 0, .int .u32 0, .int .i64 0, .int .u16 0, .int .u16 0, .int .u16 0, .int .u16 0, .int .u8 0, .int .u8 0, .int .i64 0] 64)).cell? ⟨g, k * 12 + 9, none⟩ = some (.int .u8 (p.m.1 : Int)) := hc1 9 (by decide)
  have x10 : (w.alloc (.cells #[.int .i64 0, .int .u32 0, .int .i64 0, .int .u32 0, .int .i64 0, .int .u16 0, .int .u16 0, .int .u16 0, .int .u16 0, .int .u8 0, .int .u8 0, .int .i64 0] 64)).cell? ⟨g, k * 12 + 10, none⟩ = some (.int .u8 (p.m.2 : Int)) := hc1 10 (by decide)
  have x11 : (w.alloc (.cells #[.int .i64 0, .int .u32 0, .int .i64 0, .int .u32 0, .int .i64 0, .int .u16 0, .int .u16 0, .int .u16 0, .int .u16 0, .int .u8 0, .int .u8 0, .int .i64 0] 64)).cell? ⟨g, k * 12 + 11, none⟩ = some (.int .i64 p.act) := hc1 11 (by decide)
  clear hp hc1 h h1 hn
  have hZZ := blk_new w (.cells #[.int .i64 0, .int .u32 0, .int .i64 0, .int .u32 0, .int .i64 0, .int .u16 0, .int .u16 0, .int .u16 0, .int .u16 0, .int .u8 0, .int .u8 0, .int .i64 0] 64)
  have HB0 : Hid (Below w.heap.size w (w.alloc (.cells #[.int .i64 0, .int .u32 0, .int .i64 0, .int .u32 0, .int .i64 0, .int .u16 0, .int .u16 0, .int .u16 0, .int .u16 0, .int .u8 0, .int .u8 0, .int .i64 0] 64))) := (Below.refl _ _).alloc (Nat.le_refl _) _
  go_enter Tryz.func38, Tryz.ntmps38
  go_upto_region 1 with (fail)
  generalize w.alloc (.cells #[.int .i64 0, .int .u32 0, .int .i64 0, .int .u32 0, .int .i64 0, .int .u16 0, .int .u16 0, .int .u16 0, .int .u16 0, .int .u8 0, .int .u8 0, .int .i64 0] 64) = W0 at *
  go_wp2_with (fail)
  refine (hA _).mono ?_
  rintro e w1 ⟨rfl, hw⟩
  obtain rfl := hw.symm
  clear hw
  go_wp2_with (refine wpList_store_blk rfl 64 (.tmp 4) (.tmp 25) rfl w.heap.size 0 #[.int .i64 p.i, .int .u32 (p.s : Int), .int .i64 p.sl, .int .u32 (p.d : Int), .int .i64 p.dl, .int .u16 (p.p.1 : Int), .int .u16 (p.p.2 : Int), .int .u16 (p.q.1 : Int), .int .u16 (p.q.2 : Int), .int .u8 (p.m.1 : Int), .int .u8 (p.m.2 : Int), .int .i64 p.act] #[.int .i64 p.i, .int .u32 (p.s : Int), .int .i64 p.sl, .int .u32 (p.d : Int), .int .i64 p.dl, .int .u16 (p.p.1 : Int), .int .u16 (p.p.2 : Int), .int .u16 (p.q.1 : Int), .int .u16 (p.q.2 : Int), .int .u8 (p.m.1 : Int), .int .u8 (p.m.2 : Int), .int .i64 p.act] rfl rfl 64 _ hZZ (Nat.le_of_ble_eq_true rfl) rfl (by kernel_rfl) rfl ?_; intro w8 hw8 how8)
  exact bodyPost_ret (results_blk2 Tryz.results38 rfl hw8 Tryz.underlying64 rfl (by kernel_rfl)) rfl ⟨rfl, HB0.out.trans (how8.below (Nat.le_refl _))⟩
end Go.Proofs.YtgidohnikggjfaaGreat
