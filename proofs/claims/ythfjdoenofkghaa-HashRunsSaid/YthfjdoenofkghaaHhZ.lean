/-
  Does a table give just those entries, twice, once perhaps left early?
-/
import Derived.Test.YthfjdoenofkghaaHhJ
import Derived.Test.YthfjdoenofkghaaTrTa
namespace Go.Proofs.Ythfjdoenofkghaa
open Go.RowKit Go.Shelf
set_option linter.unusedVariables false
set_option linter.unusedSimpArgs false
attribute [local go_sem] Oper.semAt_some

def dmk (D : Nat) : Deferred := { target := .collected D, args := #[] }
/-- The marks of the loops that were gone through. -/
def Mks (ds : List Nat) (V : World) : Prop := ds.Pairwise (· ≠ ·) ∧ ∀ D ∈ ds, V.heap[D]? = some (.deferred (some []))
theorem Mks.on {ds : List Nat} {V V' : World} (h : Mks ds V) (hb : Below V.heap.size V V') : Mks ds V' := ⟨h.1, fun D hD => by
  have h1 := h.2 D hD
  rw [hb.block D (by
    rcases Nat.lt_or_ge D V.heap.size with h | h
    · exact h
    · rw [Array.getElem?_eq_none h] at h1; cases h1)]
  exact h1⟩
theorem leaves_marks {F : Fence} {n : Nat} {P : Program} {fn : Func} {tmps : Array Value} {R : Ending → World → Prop} (X : World → Prop) (S : Nat → Prop)
    (hX : ∀ V D, S D → V.heap[D]? = some (.deferred (some [])) → X V → X (V.putObj D (.deferred none))) (hE : ∀ V, X V → LeavesInM F n P fn tmps R [] .returning V) :
    ∀ (ds : List Nat) (V : World), Mks ds V → (∀ D ∈ ds, S D) → X V → LeavesInM F n P fn tmps R (ds.map dmk) .returning V
  | [], V, _, _, hx => hE V hx
  | D :: ds, V, hM, hS, hx => by
    have hD := hM.2 D List.mem_cons_self
    refine ⟨by simp, .inl ⟨_, _, rfl, run_takeDeferred hD, ?_⟩⟩
    refine leaves_marks X S hX hE ds _ ⟨(List.pairwise_cons.1 hM.1).2, fun E hE' => ?_⟩ (fun E hE' => hS E (List.mem_cons_of_mem _ hE')) (hX V D (hS D List.mem_cons_self) hD hx)
    rw [World.putObj_heap_other (fun e => (List.pairwise_cons.1 hM.1).1 E hE' e.symm)]
    exact hM.2 E (List.mem_cons_of_mem _ hE')
theorem ey_top (s1 s2 d1 d2 : Nat) {gf : Nat} {g : Operand} {assign body : Code} {Q : Exit → Act → World → Prop} {a : Act} {w : World} {lb : Array Value} (hg : a.eval g = .func (.func gf) #[] lb) (eg : ∀ args w, (callFunc gf args).run Try.prog w = .ok (.enter gf args) w)
    {D : List Ey} (hseq : SeqX Fence.wide Try.prog gf lb encD (fun _ _ => True) (fun ys => ys = D) (fun pre => pre <+: D) D.length w)
    (I : List Ey → World → Prop) (Ix : Code → List Ey → World → Prop) (hI : OwnFrom w.heap.size I) (hIx : ∀ c, OwnFrom w.heap.size (Ix c)) (h0 : I [] w)
    (hassign : ∀ (l : Nat) (x : Ey) (V : World) (K : Act → World → Prop),
      (K { tmps := (((a.tmps.setIfInBounds s1 (.agg #[.int .u32 ((x.k).s : Int), .int .u32 ((x.k).d : Int), .int .u16 ((x.k).p : Int), .int .u16 ((x.k).q : Int), .int .u8 ((x.k).r : Int)])).setIfInBounds s2 (.int .i64 x.v)).setIfInBounds d1 (.pointer (some ⟨V.heap.size, 0, none⟩))).setIfInBounds d2 (.int .i64 x.v), defers := [] } (V.alloc (.cells #[.int .u32 ((x.k).s : Int), .int .u32 ((x.k).d : Int), .int .u16 ((x.k).p : Int), .int .u16 ((x.k).q : Int), .int .u8 ((x.k).r : Int)] 36))) →
      assign.wpIn (Fence.wide.inRound l) 7 Try.prog (Exit.then K (fun _ _ _ => False)) { tmps := (a.tmps.setIfInBounds s1 (.agg #[.int .u32 ((x.k).s : Int), .int .u32 ((x.k).d : Int), .int .u16 ((x.k).p : Int), .int .u16 ((x.k).q : Int), .int .u8 ((x.k).r : Int)])).setIfInBounds s2 (.int .i64 x.v), defers := [] } V)
    (hbody : ∀ (l : Nat) (pre : List Ey) (x : Ey) (b : Nat) (V : World), w.heap.size ≤ l → (∃ r, V.heap[l]? = some (.loop r)) → w.heap.size ≤ V.heap.size → w.heap.size ≤ b → V.heap[b]? = some (.cells #[.int .u32 ((x.k).s : Int), .int .u32 ((x.k).d : Int), .int .u16 ((x.k).p : Int), .int .u16 ((x.k).q : Int), .int .u8 ((x.k).r : Int)] 36) → I pre V → pre.length < D.length →
      body.wpIn (Fence.wide.inRound l) 7 Try.prog (ownPostU w.heap.size noU (fun _ _ => True) I Ix (pre ++ [x]) V) { tmps := (((a.tmps.setIfInBounds s1 (.agg #[.int .u32 ((x.k).s : Int), .int .u32 ((x.k).d : Int), .int .u16 ((x.k).p : Int), .int .u16 ((x.k).q : Int), .int .u8 ((x.k).r : Int)])).setIfInBounds s2 (.int .i64 x.v)).setIfInBounds d1 (.pointer (some ⟨b, 0, none⟩))).setIfInBounds d2 (.int .i64 x.v), defers := [] } V)
    (hdone : ∀ (C : Nat) (V : World), w.heap.size ≤ C → I D V → V.heap[C]? = some (.deferred (some [])) → Q .normal { a with defers := { target := .collected C, args := #[] } :: a.defers } V)
    (hstop : ∀ (C : Nat) (c : Code) (pre : List Ey) (V : World), w.heap.size ≤ C → pre <+: D → Ix c pre V → V.heap[C]? = some (.deferred (some [])) → c.wpIn Fence.wide 9 Try.prog Q { a with defers := { target := .collected C, args := #[] } :: a.defers } V) :
    (Code.rangeFunc g #[s1, s2] assign body).wpIn Fence.wide 9 Try.prog Q a w := by
  refine range_topX (F := Fence.wide) (n := 9) (nn := 7) noU (noU_stab _) (fun k h => h.elim) rfl rfl hg trivial eg hseq (fun _ _ => trivial) (fun _ _ _ _ _ _ _ _ => trivial) (Below.refl _ _) (fun _ => rfl) I Ix hI hIx h0
    (fun x a' V => ∃ b, w.heap.size ≤ b ∧ V.heap[b]? = some (.cells #[.int .u32 ((x.k).s : Int), .int .u32 ((x.k).d : Int), .int .u16 ((x.k).p : Int), .int .u16 ((x.k).q : Int), .int .u8 ((x.k).r : Int)] 36) ∧ a' = { tmps := (((a.tmps.setIfInBounds s1 (.agg #[.int .u32 ((x.k).s : Int), .int .u32 ((x.k).d : Int), .int .u16 ((x.k).p : Int), .int .u16 ((x.k).q : Int), .int .u8 ((x.k).r : Int)])).setIfInBounds s2 (.int .i64 x.v)).setIfInBounds d1 (.pointer (some ⟨b, 0, none⟩))).setIfInBounds d2 (.int .i64 x.v), defers := [] })
    ?_ ?_ ?_ (fun C xs V h1 h2 h3 h4 => hdone C V h1 (h2 ▸ h3) h4) hstop
  · rintro x a' _ A C row ⟨b, h1, h2, h3⟩ hg hr
    exact ⟨b, h1, blk_kept h2 hg (fun r e => (hr r e).2), h3⟩
  · intro l pre x V K hi hz hK
    have hfold : Array.foldl (fun (t : Array Value) (x : Nat × Value) => match x with | (p, v) => t.setIfInBounds p v) a.tmps ((#[s1, s2] : Array Nat).zip (encD x)) = (a.tmps.setIfInBounds s1 (.agg #[.int .u32 ((x.k).s : Int), .int .u32 ((x.k).d : Int), .int .u16 ((x.k).p : Int), .int .u16 ((x.k).q : Int), .int .u8 ((x.k).r : Int)])).setIfInBounds s2 (.int .i64 x.v) := by simp [encD]
    have hb : Below V.heap.size V (V.alloc (.cells #[.int .u32 ((x.k).s : Int), .int .u32 ((x.k).d : Int), .int .u16 ((x.k).p : Int), .int .u16 ((x.k).q : Int), .int .u8 ((x.k).r : Int)] 36)) := (Below.refl _ _).alloc (Nat.le_refl _) _
    have hgo := hassign l x V K (hK _ _ (RK.below (noU_stab 0) (Nat.zero_le _) hb) trivial (hI _ _ _ none hi (grown_of_below hb) (fun r e => by cases e)) ⟨_, hz, blk_new V _, rfl⟩)
    rw [← hfold] at hgo; exact hgo
  · rintro l pre x a' V hl hr hz hi ⟨b, h1, h2, rfl⟩ hN3
    exact hbody l pre x b V hl hr hz h1 h2 hi hN3
theorem blk_putO {w : World} {B D : Nat} {cs : Array Value} {ty : TypeId} {fr : Nat × Nat} {ds : Option (List Deferred)} {o : Obj} (h : w.heap[B]? = some (.cells cs ty fr)) (hD : w.heap[D]? = some (.deferred ds)) : (w.putObj D o).heap[B]? = some (.cells cs ty fr) := by
  rw [World.putObj_heap_other (fun e => by subst e; rw [hD] at h; cases h)]; exact h
theorem mks_lt {ds : List Nat} {V : World} (h : Mks ds V) : ∀ D ∈ ds, D < V.heap.size := fun D hD => by
  have h1 := h.2 D hD
  rcases Nat.lt_or_ge D V.heap.size with g | g
  · exact g
  · rw [Array.getElem?_eq_none g] at h1; cases h1
theorem mks_kp {ds : List Nat} {V V' : World} (h : Mks ds V) (hk : ∀ D ∈ ds, V'.heap[D]? = V.heap[D]?) : Mks ds V' := ⟨h.1, fun D hD => by rw [hk D hD]; exact h.2 D hD⟩
/-- What holds while the loops run: nothing below was written; the two counters. -/
structure Zs (W1 : World) (KB NB k n : Nat) (ds : List Nat) (V : World) : Prop where
  bel : Below W1.heap.size W1 V
  kb : V.heap[KB]? = some (.cells #[.int .i64 (k : Int)] 3)
  nb : V.heap[NB]? = some (.cells #[.int .i64 (n : Int)] 3)
  mks : Mks ds V
theorem Zs.on {W1 V V' : World} {KB NB k n : Nat} {ds : List Nat} (h : Zs W1 KB NB k n ds V) (hb : Below V.heap.size V V') : Zs W1 KB NB k n ds V' := ⟨h.bel.trans (hb.mono h.bel.size), blk_on h.kb hb, blk_on h.nb hb, h.mks.on hb⟩
theorem Zs.kept {W1 V V' : World} {KB NB k n B : Nat} {ds : List Nat} {row : Option Nat} (h : Zs W1 KB NB k n ds V) (hd : ∀ D ∈ ds, D < B) (hB : W1.heap.size ≤ B) (hg : V.grownBy V' row) (hr : ∀ r, row = some r → B ≤ r ∧ ∃ o : Obj, V.heap[r]? = some o ∧ o.isCells = false) : Zs W1 KB NB k n ds V' :=
  ⟨h.bel.grown hg h.bel.size (fun k e => by have := (hr k e).1; omega), blk_kept h.kb hg (fun r e => (hr r e).2), blk_kept h.nb hg (fun r e => (hr r e).2), mks_kp h.mks (fun D hD => hg.block D (mks_lt h.mks D hD) (fun e => by have := (hr D e.symm).1; have := hd D hD; omega))⟩
theorem Zs.set {W1 V : World} {KB NB k n : Nat} {ds : List Nat} (h : Zs W1 KB NB k n ds V) (hN : W1.heap.size ≤ NB) (hK : KB ≠ NB) (hd : ∀ D ∈ ds, D ≠ NB) (u : Int) (n' : Nat) (hu : u = (n' : Int)) : Zs W1 KB NB k n' ds (V.setCell ⟨NB, 0, none⟩ (.int .i64 u)) := by
  subst hu
  exact ⟨h.bel.setCell (p := ⟨NB, 0, none⟩) hN _, blk_far h.kb hK _, by simpa using blk_set h.nb (j := 0) (.int .i64 (n' : Int)), mks_kp h.mks (fun D hD => Below.heap_setCell V ⟨NB, 0, none⟩ _ D (hd D hD))⟩
/-- The same ahead of the inner loop. -/
structure Zs0 (W1 : World) (KB k : Nat) (ds : List Nat) (V : World) : Prop where
  bel : Below W1.heap.size W1 V
  kb : V.heap[KB]? = some (.cells #[.int .i64 (k : Int)] 3)
  mks : Mks ds V
theorem neH_any (a b : Hd) (w : World) : Sem.run Try.prog (binOp .neq 36 (.agg #[.int .u32 (a.s : Int), .int .u32 (a.d : Int), .int .u16 (a.p : Int), .int .u16 (a.q : Int), .int .u8 (a.r : Int)]) (.agg #[.int .u32 (b.s : Int), .int .u32 (b.d : Int), .int .u16 (b.p : Int), .int .u16 (b.q : Int), .int .u8 (b.r : Int)])) w = .ok (.bool (!decide (a = b))) w := by
  rw [show decide (a = b) = decide ((a.s : Int) = b.s ∧ (a.d : Int) = b.d ∧ (a.p : Int) = b.p ∧ (a.q : Int) = b.q ∧ (a.r : Int) = b.r) from decide_eq_decide.2 (hd_eq a b)]
  simp [go_sem]
  repeat' (first | rfl | (split <;> rename_i h <;> simp only [h, decide_true, decide_false, Bool.true_and, Bool.false_and, Bool.not_true, Bool.not_false]))
theorem srcY_at {w : World} {ad : Option Addr} {n cap : Nat} {l : List Ey} (h : SrcY w (.slice ad n cap) l) {i : Nat} {q : Ey} (hq : l[i]? = some q) : ∃ g off, ad = some ⟨g, off, none⟩ ∧ g < w.heap.size ∧ w.cell? ⟨g, off + i * 6, none⟩ = some (.int .u32 (q.k.s : Int)) ∧ w.cell? ⟨g, off + i * 6 + 1, none⟩ = some (.int .u32 (q.k.d : Int)) ∧ w.cell? ⟨g, off + i * 6 + 2, none⟩ = some (.int .u16 (q.k.p : Int)) ∧ w.cell? ⟨g, off + i * 6 + 3, none⟩ = some (.int .u16 (q.k.q : Int)) ∧ w.cell? ⟨g, off + i * 6 + 4, none⟩ = some (.int .u8 (q.k.r : Int)) ∧ w.cell? ⟨g, off + i * 6 + 5, none⟩ = some (.int .i64 q.v) := by
  obtain ⟨hlt, he⟩ := List.getElem?_eq_some_iff.1 hq
  obtain ⟨ad', c, e, _, h2⟩ := h
  cases e
  obtain ⟨g, off, rfl, hc⟩ := h2 (by omega)
  have h7 := hc i hlt
  rw [he] at h7
  have z0 := h7 0 (by decide)
  exact ⟨g, off, rfl, World.block_lt_of_cell? _ _ (z0.trans rfl), z0, h7 1 (by decide), h7 2 (by decide), h7 3 (by decide), h7 4 (by decide), h7 5 (by decide)⟩
theorem pre_snoc {D pre : List Ey} {x y : Ey} (hy : D[pre.length]? = some y) (hp : pre ++ [x] <+: D) : x = y := by
  obtain ⟨t, rfl⟩ := hp
  rw [List.append_assoc, List.getElem?_append_right (Nat.le_refl _)] at hy
  simpa using hy
def CFz (u : Nat → Value) (t : Nat) (v : Value) (ee : Int) (B0 KB : Nat) : Array Value := #[.pointer (some ⟨t, 0, none⟩), v, .int .i64 ee, undef, .pointer (some ⟨B0, 0, none⟩), .pointer (some ⟨B0 + 1, 0, none⟩), .pointer (some ⟨B0 + 1 + 1, 0, none⟩), .func (.func 28) #[] #[.pointer (some ⟨B0 + 1 + 1 + 1, 0, none⟩)], .pointer (some ⟨KB, 0, none⟩), u 9, u 10, u 11, u 12, u 13, u 14, u 15, u 16, u 17, u 18, u 19, u 20, u 21, u 22, u 23, u 24, u 25, u 26, u 27, u 28, u 29, u 30, u 31, u 32, u 33, u 34, u 35, u 36, u 37, u 38, u 39, u 40, u 41, u 42, u 43, u 44, u 45, u 46, u 47, u 48, u 49, u 50, u 51, u 52, u 53, u 54, u 55, u 56, u 57, u 58, u 59, u 60, u 61, u 62, u 63, u 64, u 65, u 66, u 67]
def ptrOf : Value → Addr | .pointer (some a) => a | _ => ⟨0, 0, none⟩
set_option maxHeartbeats 4000000 in
set_option maxRecDepth 20000 in
theorem allsC (t : Nat) (tv : Value) (M c P : Nat) (m : Hd → Option Int) (D : List Ey) (v : Value) (ee : Int) (w : World) (hT : Tb w t tv M c P m) (hD : Tells m D) (hS : SrcY w v D) (hl : D.length ≤ 4294967296) (h1 : -9223372036854775808 ≤ ee) (h2 : ee ≤ 9223372036854775807) :
    Calls Try.prog 16 #[.pointer (some ⟨t, 0, none⟩), v, .int .i64 ee] w fun e w' => e = .returned (.bool true) ∧ Below w.heap.size w w' := by
  obtain ⟨ad, cap, hv⟩ : ∃ ad cap, v = .slice ad D.length cap := by obtain ⟨ad, cap, e, _⟩ := hS; exact ⟨ad, cap, e⟩
  obtain ⟨nl, hnl⟩ : ∃ nl, nl = D.length := ⟨_, rfl⟩
  have Hnl : Hid (nl = D.length) := hnl
  rw [← hnl] at hv hl
  subst hv
  have hl0 : (nl : Int) ≤ 4294967296 := by omega
  clear hnl
  refine callsIn_wide.1 (callsIn_of_wp_marks (n := 9) Try.func16 rfl trivial ?_ rfl)
  simp only [Try.ntmps16, List.size_toArray, List.length_cons, List.length_nil, Nat.reduceAdd, Nat.reduceSub, Array.replicate_succ, Array.replicate_zero, List.push_toArray, List.append_toArray, List.nil_append, List.cons_append]
  refine wpIn_wide.2 ?_
  go_upto_region 1 with (fail)
  have hb0 : Below w.heap.size w (((w.alloc (.cells #[.slice ad nl cap] 32)).alloc (.cells #[.int .i64 ee] 3)).alloc (.cells #[.bool false] 4)) := by (repeat (first | assumption | exact Below.refl _ _ | refine Below.drew ?_ | refine bel_drewN ?_ _ | refine Below.setCell ?_ (by first | omega | (simp; done) | (simp; omega)) _ | refine Below.alloc ?_ (by first | omega | (simp; done) | (simp; omega)) _ | refine bel_of ?_ (by assumption)))
  have z0 : (((w.alloc (.cells #[.slice ad nl cap] 32)).alloc (.cells #[.int .i64 ee] 3)).alloc (.cells #[.bool false] 4)).heap.size = w.heap.size + 1 + 1 + 1 := by simp
  have k0 : (((w.alloc (.cells #[.slice ad nl cap] 32)).alloc (.cells #[.int .i64 ee] 3)).alloc (.cells #[.bool false] 4)).heap[w.heap.size]? = some (.cells #[.slice ad nl cap] 32) := blk_alloc (blk_alloc (blk_new w _) _) _
  have k1 : (((w.alloc (.cells #[.slice ad nl cap] 32)).alloc (.cells #[.int .i64 ee] 3)).alloc (.cells #[.bool false] 4)).heap[w.heap.size + 1]? = some (.cells #[.int .i64 ee] 3) := by
    have := blk_new (w.alloc (.cells #[.slice ad nl cap] 32)) (.cells #[.int .i64 ee] 3)
    rw [World.size_alloc] at this
    exact blk_alloc this _
  have k2 : (((w.alloc (.cells #[.slice ad nl cap] 32)).alloc (.cells #[.int .i64 ee] 3)).alloc (.cells #[.bool false] 4)).heap[w.heap.size + 1 + 1]? = some (.cells #[.bool false] 4) := by
    have := blk_new ((w.alloc (.cells #[.slice ad nl cap] 32)).alloc (.cells #[.int .i64 ee] 3)) (.cells #[.bool false] 4)
    rw [World.size_alloc, World.size_alloc] at this
    exact this
  generalize ((w.alloc (.cells #[.slice ad nl cap] 32)).alloc (.cells #[.int .i64 ee] 3)).alloc (.cells #[.bool false] 4) = W0 at *
  go_wp2_with (fail)
  refine (allC (some ⟨t, 0, none⟩) _).mono ?_
  rintro e W1 ⟨rfl, hW1⟩
  have hnf := fun V => eq_nilF 28 #[.pointer (some ⟨W0.heap.size, 0, none⟩)] V
  rw [z0] at hnf ⊢
  go_upto_region 5 with (fail)
  have hb01 : Below W0.heap.size W0 (W0.alloc (.cells #[.pointer (some ⟨t, 0, none⟩)] 22)) := (Below.refl _ _).alloc (Nat.le_refl _) _
  have k3 : (W0.alloc (.cells #[.pointer (some ⟨t, 0, none⟩)] 22)).heap[w.heap.size + 1 + 1 + 1]? = some (.cells #[.pointer (some ⟨t, 0, none⟩)] 22) := by
    have := blk_new W0 (.cells #[.pointer (some ⟨t, 0, none⟩)] 22)
    rw [z0] at this; exact this
  have z1 : (W0.alloc (.cells #[.pointer (some ⟨t, 0, none⟩)] 22)).heap.size = w.heap.size + 1 + 1 + 1 + 1 := by simp [z0]
  have hbw : Below w.heap.size w (W0.alloc (.cells #[.pointer (some ⟨t, 0, none⟩)] 22)) := hb0.trans (hb01.mono (by omega))
  have HT1 : Hid (Tb (W0.alloc (.cells #[.pointer (some ⟨t, 0, none⟩)] 22)) t tv M c P m) := hT.on hbw
  have HS1 : Hid (SrcY (W0.alloc (.cells #[.pointer (some ⟨t, 0, none⟩)] 22)) (.slice ad nl cap) D) := hS.keep hbw
  have HBw : Hid (Below w.heap.size w (W0.alloc (.cells #[.pointer (some ⟨t, 0, none⟩)] 22))) := hbw
  have HD : Hid (Tells m D) := hD
  have K0 := blk_on k0 hb01
  have K1 := blk_on k1 hb01
  have K2 := blk_on k2 hb01
  clear hb01 hbw hT hS hD hb0 k0 k1 k2 hnf
  generalize W0.alloc (.cells #[.pointer (some ⟨t, 0, none⟩)] 22) = W1 at *
  clear z0 W0
  rw [← z1]
  have HZ0 : Hid (Zs0 W1 W1.heap.size 0 [] (W1.alloc (.cells #[.int .i64 0] 3))) := ⟨(Below.refl _ _).alloc (Nat.le_refl _) _, blk_new W1 _, ⟨List.Pairwise.nil, fun D h => by cases h⟩⟩
  refine wp_loop (fun a V => ∃ (k KB : Nat) (ds : List Nat), k ≤ 2 ∧ a = { tmps := CFz (fun i => a.tmps.getD i undef) t (.slice ad nl cap) ee w.heap.size KB, defers := ds.map dmk } ∧ Hid (Zs0 W1 KB k ds V ∧ W1.heap.size ≤ KB ∧ (∀ D ∈ ds, W1.heap.size ≤ D ∧ D ≠ KB))) (fun a V => 2 - (intOf ((V.cell? (ptrOf (a.tmps.getD 8 undef))).getD undef)).toNat) ?start ?round
  case start => exact ⟨0, W1.heap.size, [], by omega, rfl, HZ0.out, Nat.le_refl _, fun D h => by cases h⟩
  case round =>
    clear HZ0
    rintro a V ⟨k, KB, ds, hk, ha, HW⟩
    generalize (fun i => a.tmps.getD i undef) = u at ha
    subst ha
    unfold CFz
    generalize hdm : ds.map dmk = dm
    have cK := blk_cell HW.out.1.kb (j := 0) rfl
    by_cases hk2 : k < 2
    · have hk2i : (k : Int) < 2 := by omega
      go_wp2_with (fail)
      have bA : Below V.heap.size V (V.alloc (.cells #[.int .i64 0] 3)) := (Below.refl _ _).alloc (Nat.le_refl _) _
      have HZ2 : Zs W1 KB V.heap.size k 0 ds (V.alloc (.cells #[.int .i64 0] 3)) := ⟨HW.out.1.bel.trans (bA.mono HW.out.1.bel.size), blk_on HW.out.1.kb bA, blk_new V _, HW.out.1.mks.on bA⟩
      have hz5 : (V.alloc (.cells #[.int .i64 0] 3)).heap.size = V.heap.size + 1 := by simp
      have hKB : KB < V.heap.size := blk_lt HW.out.1.kb
      have hdl : ∀ E ∈ ds, E < V.heap.size := mks_lt HW.out.1.mks
      have HDs : Hid (∀ E ∈ ds, W1.heap.size ≤ E ∧ E ≠ KB) := HW.out.2.2
      have HKW : Hid (W1.heap.size ≤ KB) := HW.out.2.1
      have hWV : W1.heap.size ≤ V.heap.size := HW.out.1.bel.size
      have HcK : Hid (V.cell? ⟨KB, 0, none⟩ = some (.int .i64 (k : Int))) := cK
      clear HW bA cK
      generalize V.alloc (.cells #[.int .i64 0] 3) = V2 at *
      generalize V.heap.size = NB at *
      refine (wpIn_wide (n := 9)).1 ?_
      refine ey_top 21 22 10 11 rfl (enters_of Try.func28 (by kernel_rfl) rfl) (all1_seq t tv M c P m D (w.heap.size + 1 + 1 + 1) V2 (HT1.out.on HZ2.bel) HD.out (blk_on k3 HZ2.bel))
        (fun pre V3 => Zs W1 KB NB k pre.length ds V3 ∧ ¬ (k = 0 ∧ 0 < pre.length ∧ (pre.length : Int) = ee))
        (fun cc pre V3 => (cc = .exit 2 ∧ k = 0 ∧ (pre.length : Int) = ee ∧ Zs W1 KB NB k pre.length ds V3) ∨ ¬ (pre <+: D)) ?hI ?hIx ?h0 ?assign ?body ?done ?stop
      case hI =>
        rintro s X Y row ⟨h1, h2⟩ hg hr
        exact ⟨h1.kept (B := V2.heap.size) (fun E hE => by have := hdl E hE; omega) (by omega) hg hr, h2⟩
      case hIx =>
        rintro cc s X Y row (⟨e1, e2, e3, h1⟩ | h) hg hr
        · exact .inl ⟨e1, e2, e3, h1.kept (B := V2.heap.size) (fun E hE => by have := hdl E hE; omega) (by omega) hg hr⟩
        · exact .inr h
      case h0 => exact ⟨HZ2, fun h => by have := h.2.1; simp at this⟩
      case assign =>
        intro l x V K hK
        simp only [List.setIfInBounds_toArray, List.set_cons_succ, List.set_cons_zero] at hK ⊢
        gi_wp2
        exact hK
      case body =>
        rintro l2 pre x b V3 hl hr2 hz hb hbk ⟨hZ, hnb⟩ hjD
        simp only [List.setIfInBounds_toArray, List.set_cons_succ, List.set_cons_zero]
        obtain ⟨y, hy⟩ : ∃ y, D[pre.length]? = some y := ⟨_, List.getElem?_eq_getElem hjD⟩
        obtain ⟨g, off, hade, hgl, d0, d1, d2, d3, d4, d5⟩ := srcY_at (HS1.out.keep hZ.bel) hy
        subst hade
        have hjn : (pre.length : Int) < (nl : Int) := by have := Hnl.out; omega
        have hjn2 : ¬ (nl : Int) ≤ (pre.length : Int) := by omega
        have hix2 : ¬ nl ≤ pre.length := by omega
        have cN := blk_cell hZ.nb (j := 0) rfl
        have cL := blk_cell (blk_on K0 hZ.bel) (j := 0) rfl
        obtain ⟨x0, x1, x2, x3, x4⟩ := blk5 hbk
        have lN := blk_lt hZ.nb
        have lw := blk_lt (blk_on K0 hZ.bel)
        have lb := blk_lt hbk
        have lg : g < V3.heap.size := hgl
        have HR2 : Hid (V3.heap[w.heap.size + 1 + 1]? = some (.cells #[.bool false] 4)) := blk_on K2 hZ.bel
        have HE3 : Hid (V3.heap[w.heap.size + 1]? = some (.cells #[.int .i64 ee] 3)) := blk_on K1 hZ.bel
        have HZ3 : Hid (Zs W1 KB NB k pre.length ds V3) := hZ
        have hlen : (pre ++ [x]).length = pre.length + 1 := by simp
        have hQr : ∀ a V', RK V2.heap.size noU V3 V' → x ≠ y → (ownPostU V2.heap.size noU (fun _ _ => True) (fun (pre : List Ey) V3 => Zs W1 KB NB k pre.length ds V3 ∧ ¬ (k = 0 ∧ 0 < pre.length ∧ (pre.length : Int) = ee)) (fun cc pre V3 => (cc = .exit 2 ∧ k = 0 ∧ (pre.length : Int) = ee ∧ Zs W1 KB NB k pre.length ds V3) ∨ ¬ (pre <+: D)) (pre ++ [x]) V3) .ret a V' := fun a V' h1 h2 => ⟨h1, .inr (fun hp => h2 (pre_snoc hy hp))⟩
        have hQn : ∀ a V', RK V2.heap.size noU V3 V' → Zs W1 KB NB k (pre.length + 1) ds V' → ¬ (k = 0 ∧ (pre.length : Int) + 1 = ee) → (ownPostU V2.heap.size noU (fun _ _ => True) (fun (pre : List Ey) V3 => Zs W1 KB NB k pre.length ds V3 ∧ ¬ (k = 0 ∧ 0 < pre.length ∧ (pre.length : Int) = ee)) (fun cc pre V3 => (cc = .exit 2 ∧ k = 0 ∧ (pre.length : Int) = ee ∧ Zs W1 KB NB k pre.length ds V3) ∨ ¬ (pre <+: D)) (pre ++ [x]) V3) .normal a V' := fun a V' h1 h2 h3 => ⟨h1, trivial, by rw [hlen]; exact h2, by rw [hlen]; intro q; exact h3 ⟨q.1, by have := q.2.2; omega⟩⟩
        have hQe : ∀ a V', RK V2.heap.size noU V3 V' → Zs W1 KB NB k (pre.length + 1) ds V' → k = 0 → (pre.length : Int) + 1 = ee → (ownPostU V2.heap.size noU (fun _ _ => True) (fun (pre : List Ey) V3 => Zs W1 KB NB k pre.length ds V3 ∧ ¬ (k = 0 ∧ 0 < pre.length ∧ (pre.length : Int) = ee)) (fun cc pre V3 => (cc = .exit 2 ∧ k = 0 ∧ (pre.length : Int) = ee ∧ Zs W1 KB NB k pre.length ds V3) ∨ ¬ (pre <+: D)) (pre ++ [x]) V3) (.exit 2) a V' := fun a V' h1 h2 h3 h4 => ⟨h1, .inl ⟨rfl, h3, by rw [hlen]; omega, by rw [hlen]; exact h2⟩⟩
        generalize hQ2 : ownPostU _ _ _ _ _ _ _ = Q2 at hQr hQn hQe ⊢
        have HQr : Hid (∀ a V', RK V2.heap.size noU V3 V' → x ≠ y → Q2 .ret a V') := hQr
        have HQn : Hid (∀ a V', RK V2.heap.size noU V3 V' → Zs W1 KB NB k (pre.length + 1) ds V' → ¬ (k = 0 ∧ (pre.length : Int) + 1 = ee) → Q2 .normal a V') := hQn
        have HQe : Hid (∀ a V', RK V2.heap.size noU V3 V' → Zs W1 KB NB k (pre.length + 1) ds V' → k = 0 → (pre.length : Int) + 1 = ee → Q2 (.exit 2) a V') := hQe
        have heq := fun W => neH_any x.k y.k W
        clear hQr hQn hQe hQ2 hZ hbk hy hnb hlen hjD
        by_cases hk1 : x.k = y.k
        · rw [decide_eq_true hk1] at heq
          simp only [Bool.not_true] at heq
          by_cases hv1 : x.v = y.v
          · have hv2 : decide (x.v = y.v) = true := decide_eq_true hv1
            have hx : x = y := by obtain ⟨xk, xv⟩ := x; obtain ⟨yk, yv⟩ := y; simp only at hk1 hv1; rw [hk1, hv1]
            clear hx
            have kne : Nonempty (Kin V3) := ⟨⟨_, Below.refl _ _⟩⟩
            have kc0 : ∀ z : Kin V3, z.val.cell? ⟨NB, 0, none⟩ = some (.int .i64 (pre.length : Int)) := fun z => by rw [kin_cell lN]; exact cN
            have kc1 : ∀ z : Kin V3, z.val.cell? ⟨w.heap.size, 0, none⟩ = some (.slice (some ⟨g, off, none⟩) nl cap) := fun z => by rw [kin_cell lw]; exact cL
            have kc2 : ∀ z : Kin V3, z.val.cell? ⟨b, 0, none⟩ = some (.int .u32 (x.k.s : Int)) := fun z => by rw [kin_cell lb]; exact x0
            have kc3 : ∀ z : Kin V3, z.val.cell? ⟨b, 1, none⟩ = some (.int .u32 (x.k.d : Int)) := fun z => by rw [kin_cell lb]; exact x1
            have kc4 : ∀ z : Kin V3, z.val.cell? ⟨b, 2, none⟩ = some (.int .u16 (x.k.p : Int)) := fun z => by rw [kin_cell lb]; exact x2
            have kc5 : ∀ z : Kin V3, z.val.cell? ⟨b, 3, none⟩ = some (.int .u16 (x.k.q : Int)) := fun z => by rw [kin_cell lb]; exact x3
            have kc6 : ∀ z : Kin V3, z.val.cell? ⟨b, 4, none⟩ = some (.int .u8 (x.k.r : Int)) := fun z => by rw [kin_cell lb]; exact x4
            have kc7 : ∀ z : Kin V3, z.val.cell? ⟨g, off + pre.length * 6, none⟩ = some (.int .u32 (y.k.s : Int)) := fun z => by rw [kin_cell lg]; exact d0
            have kc8 : ∀ z : Kin V3, z.val.cell? ⟨g, off + pre.length * 6 + 1, none⟩ = some (.int .u32 (y.k.d : Int)) := fun z => by rw [kin_cell lg]; exact d1
            have kc9 : ∀ z : Kin V3, z.val.cell? ⟨g, off + pre.length * 6 + 2, none⟩ = some (.int .u16 (y.k.p : Int)) := fun z => by rw [kin_cell lg]; exact d2
            have kc10 : ∀ z : Kin V3, z.val.cell? ⟨g, off + pre.length * 6 + 3, none⟩ = some (.int .u16 (y.k.q : Int)) := fun z => by rw [kin_cell lg]; exact d3
            have kc11 : ∀ z : Kin V3, z.val.cell? ⟨g, off + pre.length * 6 + 4, none⟩ = some (.int .u8 (y.k.r : Int)) := fun z => by rw [kin_cell lg]; exact d4
            have kc12 : ∀ z : Kin V3, z.val.cell? ⟨g, off + pre.length * 6 + 5, none⟩ = some (.int .i64 y.v) := fun z => by rw [kin_cell lg]; exact d5
            gi_wp2_with (fail)
            refine wpIn_region_kinR V3 (Below.refl _ _) (by kernel_rfl) (by kernel_rfl) (by kernel_rfl) ?_
            repeat (go_big_quiet_step (fail))
            refine wpQuiet_nil ?_
            rintro wq ⟨⟨xq, hxq⟩, hyq⟩
            have hq : Below V3.heap.size V3 wq := by rw [hyq]; exact hxq
            clear hyq hxq xq kne kc0 kc1 kc2 kc3 kc4 kc5 kc6 kc7 kc8 kc9 kc10 kc11 kc12
            clear d0 d1 d2 d3 d4 d5 x0 x1 x2 x3 x4 cL cN heq
            have cN4 := blk_cell (HZ3.out.on hq).nb (j := 0) rfl
            have fN4 := blk_free (HZ3.out.on hq).nb 0
            have cK4 := blk_cell (HZ3.out.on hq).kb (j := 0) rfl
            have cE4 := blk_cell (blk_on HE3.out hq) (j := 0) rfl
            have hw1 : IntKind.i64.wrap ((pre.length : Int) + 1) = (pre.length : Int) + 1 := by rw [IntKind.wrap_i64]; omega
            have HZ4 : Hid (Zs W1 KB NB k (pre.length + 1) ds (wq.setCell ⟨NB, 0, none⟩ (.int .i64 ((pre.length : Int) + 1)))) := (HZ3.out.on hq).set (by omega) (by omega) (fun E hE => by have := hdl E hE; omega) _ _ (by omega)
            have HRK : Hid (RK V2.heap.size noU V3 (wq.setCell ⟨NB, 0, none⟩ (.int .i64 ((pre.length : Int) + 1)))) := (RK.below (noU_stab 0) (Nat.zero_le _) hq).trans (rk_set _ _ (by omega))
            have hnw : ¬ NB = w.heap.size + 1 := by omega
            have hnk : ¬ NB = KB := by omega
            have hnk' : ¬ KB = NB := by omega
            have hnw' : ¬ w.heap.size + 1 = NB := by omega
            by_cases hk0 : k = 0
            · subst hk0
              by_cases hee : (pre.length : Int) + 1 = ee
              · have hG := fun a => HQe.out a _ HRK.out HZ4.out rfl hee
                rw [hee] at hG
                gi_wp2_with (fail)
                exact hG _
              · have hG := fun a => HQn.out a _ HRK.out HZ4.out (fun q => hee q.2)
                gi_wp2_with (fail)
                exact hG _
            · have hk0' : ¬ (k : Int) = 0 := by omega
              have hG := fun a => HQn.out a _ HRK.out HZ4.out (fun q => hk0 q.1)
              gi_wp2_with (fail)
              exact hG _
          · have hxy : x ≠ y := fun e => hv1 (by rw [e])
            have kne : Nonempty (Kin V3) := ⟨⟨_, Below.refl _ _⟩⟩
            have kc0 : ∀ z : Kin V3, z.val.cell? ⟨NB, 0, none⟩ = some (.int .i64 (pre.length : Int)) := fun z => by rw [kin_cell lN]; exact cN
            have kc1 : ∀ z : Kin V3, z.val.cell? ⟨w.heap.size, 0, none⟩ = some (.slice (some ⟨g, off, none⟩) nl cap) := fun z => by rw [kin_cell lw]; exact cL
            have kc2 : ∀ z : Kin V3, z.val.cell? ⟨b, 0, none⟩ = some (.int .u32 (x.k.s : Int)) := fun z => by rw [kin_cell lb]; exact x0
            have kc3 : ∀ z : Kin V3, z.val.cell? ⟨b, 1, none⟩ = some (.int .u32 (x.k.d : Int)) := fun z => by rw [kin_cell lb]; exact x1
            have kc4 : ∀ z : Kin V3, z.val.cell? ⟨b, 2, none⟩ = some (.int .u16 (x.k.p : Int)) := fun z => by rw [kin_cell lb]; exact x2
            have kc5 : ∀ z : Kin V3, z.val.cell? ⟨b, 3, none⟩ = some (.int .u16 (x.k.q : Int)) := fun z => by rw [kin_cell lb]; exact x3
            have kc6 : ∀ z : Kin V3, z.val.cell? ⟨b, 4, none⟩ = some (.int .u8 (x.k.r : Int)) := fun z => by rw [kin_cell lb]; exact x4
            have kc7 : ∀ z : Kin V3, z.val.cell? ⟨g, off + pre.length * 6, none⟩ = some (.int .u32 (y.k.s : Int)) := fun z => by rw [kin_cell lg]; exact d0
            have kc8 : ∀ z : Kin V3, z.val.cell? ⟨g, off + pre.length * 6 + 1, none⟩ = some (.int .u32 (y.k.d : Int)) := fun z => by rw [kin_cell lg]; exact d1
            have kc9 : ∀ z : Kin V3, z.val.cell? ⟨g, off + pre.length * 6 + 2, none⟩ = some (.int .u16 (y.k.p : Int)) := fun z => by rw [kin_cell lg]; exact d2
            have kc10 : ∀ z : Kin V3, z.val.cell? ⟨g, off + pre.length * 6 + 3, none⟩ = some (.int .u16 (y.k.q : Int)) := fun z => by rw [kin_cell lg]; exact d3
            have kc11 : ∀ z : Kin V3, z.val.cell? ⟨g, off + pre.length * 6 + 4, none⟩ = some (.int .u8 (y.k.r : Int)) := fun z => by rw [kin_cell lg]; exact d4
            have kc12 : ∀ z : Kin V3, z.val.cell? ⟨g, off + pre.length * 6 + 5, none⟩ = some (.int .i64 y.v) := fun z => by rw [kin_cell lg]; exact d5
            gi_wp2_with (fail)
            refine wpIn_region_kinR V3 (Below.refl _ _) (by kernel_rfl) (by kernel_rfl) (by kernel_rfl) ?_
            repeat (go_big_quiet_step (fail))
            refine wpQuiet_nil ?_
            rintro wq ⟨⟨xq, hxq⟩, hyq⟩
            have hq : Below V3.heap.size V3 wq := by rw [hyq]; exact hxq
            clear hyq hxq xq kne kc0 kc1 kc2 kc3 kc4 kc5 kc6 kc7 kc8 kc9 kc10 kc11 kc12
            clear d0 d1 d2 d3 d4 d5 x0 x1 x2 x3 x4 cL cN heq
            have cR := blk_cell (blk_on HR2.out hq) (j := 0) rfl
            have fR := blk_free (blk_on HR2.out hq) 0
            have hG := fun a => HQr.out a (wq.setCell ⟨w.heap.size + 1 + 1, 0, none⟩ (.bool false)) ((RK.below (noU_stab 0) (Nat.zero_le _) hq).trans (rk_set _ _ (by omega))) hxy
            gi_wp2_with (fail)
            exact hG _
        · have hxy : x ≠ y := fun e => hk1 (by rw [e])
          rw [decide_eq_false hk1] at heq
          simp only [Bool.not_false] at heq
          have kne : Nonempty (Kin V3) := ⟨⟨_, Below.refl _ _⟩⟩
          have kc0 : ∀ z : Kin V3, z.val.cell? ⟨NB, 0, none⟩ = some (.int .i64 (pre.length : Int)) := fun z => by rw [kin_cell lN]; exact cN
          have kc1 : ∀ z : Kin V3, z.val.cell? ⟨w.heap.size, 0, none⟩ = some (.slice (some ⟨g, off, none⟩) nl cap) := fun z => by rw [kin_cell lw]; exact cL
          have kc2 : ∀ z : Kin V3, z.val.cell? ⟨b, 0, none⟩ = some (.int .u32 (x.k.s : Int)) := fun z => by rw [kin_cell lb]; exact x0
          have kc3 : ∀ z : Kin V3, z.val.cell? ⟨b, 1, none⟩ = some (.int .u32 (x.k.d : Int)) := fun z => by rw [kin_cell lb]; exact x1
          have kc4 : ∀ z : Kin V3, z.val.cell? ⟨b, 2, none⟩ = some (.int .u16 (x.k.p : Int)) := fun z => by rw [kin_cell lb]; exact x2
          have kc5 : ∀ z : Kin V3, z.val.cell? ⟨b, 3, none⟩ = some (.int .u16 (x.k.q : Int)) := fun z => by rw [kin_cell lb]; exact x3
          have kc6 : ∀ z : Kin V3, z.val.cell? ⟨b, 4, none⟩ = some (.int .u8 (x.k.r : Int)) := fun z => by rw [kin_cell lb]; exact x4
          have kc7 : ∀ z : Kin V3, z.val.cell? ⟨g, off + pre.length * 6, none⟩ = some (.int .u32 (y.k.s : Int)) := fun z => by rw [kin_cell lg]; exact d0
          have kc8 : ∀ z : Kin V3, z.val.cell? ⟨g, off + pre.length * 6 + 1, none⟩ = some (.int .u32 (y.k.d : Int)) := fun z => by rw [kin_cell lg]; exact d1
          have kc9 : ∀ z : Kin V3, z.val.cell? ⟨g, off + pre.length * 6 + 2, none⟩ = some (.int .u16 (y.k.p : Int)) := fun z => by rw [kin_cell lg]; exact d2
          have kc10 : ∀ z : Kin V3, z.val.cell? ⟨g, off + pre.length * 6 + 3, none⟩ = some (.int .u16 (y.k.q : Int)) := fun z => by rw [kin_cell lg]; exact d3
          have kc11 : ∀ z : Kin V3, z.val.cell? ⟨g, off + pre.length * 6 + 4, none⟩ = some (.int .u8 (y.k.r : Int)) := fun z => by rw [kin_cell lg]; exact d4
          have kc12 : ∀ z : Kin V3, z.val.cell? ⟨g, off + pre.length * 6 + 5, none⟩ = some (.int .i64 y.v) := fun z => by rw [kin_cell lg]; exact d5
          gi_wp2_with (fail)
          refine wpIn_region_kinR V3 (Below.refl _ _) (by kernel_rfl) (by kernel_rfl) (by kernel_rfl) ?_
          repeat (go_big_quiet_step (fail))
          refine wpQuiet_nil ?_
          rintro wq ⟨⟨xq, hxq⟩, hyq⟩
          have hq : Below V3.heap.size V3 wq := by rw [hyq]; exact hxq
          clear hyq hxq xq kne kc0 kc1 kc2 kc3 kc4 kc5 kc6 kc7 kc8 kc9 kc10 kc11 kc12
          clear d0 d1 d2 d3 d4 d5 x0 x1 x2 x3 x4 cL cN heq
          have cR := blk_cell (blk_on HR2.out hq) (j := 0) rfl
          have fR := blk_free (blk_on HR2.out hq) 0
          have hG := fun a => HQr.out a (wq.setCell ⟨w.heap.size + 1 + 1, 0, none⟩ (.bool false)) ((RK.below (noU_stab 0) (Nat.zero_le _) hq).trans (rk_set _ _ (by omega))) hxy
          gi_wp2_with (fail)
          exact hG _
      case done =>
        rintro C V5 hC ⟨hZ, _⟩ hK
        obtain ⟨nn, hnn⟩ : ∃ nn, nn = D.length := ⟨_, rfl⟩
        rw [← hnn] at hZ
        have hnl2 : nn = nl := by rw [hnn]; exact Hnl.out.symm
        subst hnl2
        clear hnn
        have HZ5 : Hid (Zs W1 KB NB k nn ds V5) := hZ
        have Hdm : Hid (ds.map dmk = dm) := hdm
        have cN5 := blk_cell hZ.nb (j := 0) rfl
        have cK5 := blk_cell hZ.kb (j := 0) rfl
        have cL5 := blk_cell (blk_on K0 hZ.bel) (j := 0) rfl
        have cE5 := blk_cell (blk_on K1 hZ.bel) (j := 0) rfl
        have HM5 : Hid (Mks (C :: ds) V5) := ⟨List.pairwise_cons.2 ⟨fun E hE => by have := hdl E hE; omega, hZ.mks.1⟩, fun E hE => by
          rcases List.mem_cons.1 hE with rfl | hE
          · exact hK
          · exact hZ.mks.2 E hE⟩
        have lK5 := blk_lt hZ.kb
        have lV5 : W1.heap.size ≤ V5.heap.size := hZ.bel.size
        have lC5 : C < V5.heap.size := (Array.getElem?_eq_some_iff.1 hK).1
        have hkw : IntKind.i64.wrap ((k : Int) + 1) = (k : Int) + 1 := by rw [IntKind.wrap_i64]; omega
        have bN : Below V5.heap.size V5 (V5.alloc (.cells #[.int .i64 ((k : Int) + 1)] 3)) := (Below.refl _ _).alloc (Nat.le_refl _) _
        have HZ6 : Hid (Zs0 W1 V5.heap.size (k + 1) (C :: ds) (V5.alloc (.cells #[.int .i64 ((k : Int) + 1)] 3))) := ⟨hZ.bel.trans (bN.mono hZ.bel.size), blk_new V5 _, HM5.out.on bN⟩
        have HDs6 : Hid (∀ E ∈ C :: ds, W1.heap.size ≤ E ∧ E ≠ V5.heap.size) := fun E hE => by
          rcases List.mem_cons.1 hE with rfl | hE
          · exact ⟨by omega, by omega⟩
          · exact ⟨(HDs.out E hE).1, by have := hdl E hE; have := blk_lt hZ.nb; omega⟩
        clear hZ hK hdm HM5 bN
        go_wp2_with (fail)
        refine ⟨⟨k + 1, V5.heap.size, C :: ds, by omega, by rw [← Hdm.out]; rfl, HZ6.out, lV5, HDs6.out⟩, ?_⟩
        show 2 - (intOf (((V5.alloc (.cells #[.int .i64 ((k : Int) + 1)] 3)).cell? ⟨V5.heap.size, 0, none⟩).getD undef)).toNat < 2 - (intOf ((V.cell? ⟨KB, 0, none⟩).getD undef)).toNat
        rw [HcK.out, blk_cell (blk_new V5 (.cells #[.int .i64 ((k : Int) + 1)] 3)) (j := 0) rfl]
        simp [intOf]; omega
      case stop =>
        rintro C cc pre V5 hC hpre (⟨rfl, hk0, hee, hZ⟩ | h) hK
        · refine wpIn_wide.2 ?_
          obtain ⟨nn, hnn⟩ : ∃ nn, nn = pre.length := ⟨_, rfl⟩
          rw [← hnn] at hZ hee
          clear hnn
          have HZ5 : Hid (Zs W1 KB NB k nn ds V5) := hZ
          have Hdm : Hid (ds.map dmk = dm) := hdm
          have cN5 := blk_cell hZ.nb (j := 0) rfl
          have cK5 := blk_cell hZ.kb (j := 0) rfl
          have cL5 := blk_cell (blk_on K0 hZ.bel) (j := 0) rfl
          have cE5 := blk_cell (blk_on K1 hZ.bel) (j := 0) rfl
          have HM5 : Hid (Mks (C :: ds) V5) := ⟨List.pairwise_cons.2 ⟨fun E hE => by have := hdl E hE; omega, hZ.mks.1⟩, fun E hE => by
            rcases List.mem_cons.1 hE with rfl | hE
            · exact hK
            · exact hZ.mks.2 E hE⟩
          have lK5 := blk_lt hZ.kb
          have lV5 : W1.heap.size ≤ V5.heap.size := hZ.bel.size
          have lC5 : C < V5.heap.size := (Array.getElem?_eq_some_iff.1 hK).1
          have hkw : IntKind.i64.wrap ((k : Int) + 1) = (k : Int) + 1 := by rw [IntKind.wrap_i64]; omega
          have bN : Below V5.heap.size V5 (V5.alloc (.cells #[.int .i64 ((k : Int) + 1)] 3)) := (Below.refl _ _).alloc (Nat.le_refl _) _
          have HZ6 : Hid (Zs0 W1 V5.heap.size (k + 1) (C :: ds) (V5.alloc (.cells #[.int .i64 ((k : Int) + 1)] 3))) := ⟨hZ.bel.trans (bN.mono hZ.bel.size), blk_new V5 _, HM5.out.on bN⟩
          have HDs6 : Hid (∀ E ∈ C :: ds, W1.heap.size ≤ E ∧ E ≠ V5.heap.size) := fun E hE => by
            rcases List.mem_cons.1 hE with rfl | hE
            · exact ⟨by omega, by omega⟩
            · exact ⟨(HDs.out E hE).1, by have := hdl E hE; have := blk_lt hZ.nb; omega⟩
          clear hZ hK hdm HM5 bN
          subst hk0
          have HZ7 : Hid (Zs0 W1 V5.heap.size 1 (C :: ds) (V5.alloc (.cells #[.int .i64 1] 3))) := HZ6.out
          by_cases hnl3 : nn = nl
          · subst hnl3
            go_wp2_with (fail)
            refine ⟨⟨1, V5.heap.size, C :: ds, by omega, by rw [← Hdm.out]; rfl, HZ7.out, lV5, HDs6.out⟩, ?_⟩
            show 2 - (intOf (((V5.alloc (.cells #[.int .i64 1] 3)).cell? ⟨V5.heap.size, 0, none⟩).getD undef)).toNat < 2 - (intOf ((V.cell? ⟨KB, 0, none⟩).getD undef)).toNat
            rw [HcK.out, blk_cell (blk_new V5 (.cells #[.int .i64 1] 3)) (j := 0) rfl]
            simp [intOf]
          · have hnl4 : ¬ (nn : Int) = (nl : Int) := by omega
            go_wp2_with (fail)
            refine ⟨⟨1, V5.heap.size, C :: ds, by omega, by rw [← Hdm.out]; rfl, HZ7.out, lV5, HDs6.out⟩, ?_⟩
            show 2 - (intOf (((V5.alloc (.cells #[.int .i64 1] 3)).cell? ⟨V5.heap.size, 0, none⟩).getD undef)).toNat < 2 - (intOf ((V.cell? ⟨KB, 0, none⟩).getD undef)).toNat
            rw [HcK.out, blk_cell (blk_new V5 (.cells #[.int .i64 1] 3)) (j := 0) rfl]
            simp [intOf]
        · exact absurd hpre h
    · obtain rfl : k = 2 := by omega
      have cR := blk_cell (blk_on K2 HW.out.1.bel) (j := 0) rfl
      have fR := blk_free (blk_on K2 HW.out.1.bel) 0
      have HR : Hid ((V.setCell ⟨w.heap.size + 1 + 1, 0, none⟩ (.bool true)).heap[w.heap.size + 1 + 1]? = some (.cells #[.bool true] 4)) := by show _ = _; simpa using blk_set (blk_on K2 HW.out.1.bel) (j := 0) (.bool true)
      have HBb : Hid (Below w.heap.size w (V.setCell ⟨w.heap.size + 1 + 1, 0, none⟩ (.bool true))) := (HBw.out.trans (HW.out.1.bel.mono HBw.out.size)).setCell (p := ⟨w.heap.size + 1 + 1, 0, none⟩) (by show w.heap.size ≤ w.heap.size + 1 + 1; omega) _
      have HMm : Hid (Mks ds (V.setCell ⟨w.heap.size + 1 + 1, 0, none⟩ (.bool true))) := mks_kp HW.out.1.mks (fun E hE => Below.heap_setCell V ⟨w.heap.size + 1 + 1, 0, none⟩ _ E (by have := (HW.out.2.2 E hE).1; intro e; simp only at e; omega))
      go_wp2_with (fail)
      subst hdm
      refine leaves_marks (fun V => V.heap[w.heap.size + 1 + 1]? = some (.cells #[.bool true] 4) ∧ Below w.heap.size w V) (fun D => w.heap.size ≤ D) (fun V D hD h1 h2 => ⟨blk_putO h2.1 h1, h2.2.trans (belowK_b (w := w) (Nat.le_refl _) _ D _ _ hD h1 rfl rfl)⟩) (fun V hV => ?_) ds _ HMm.out (fun E hE => by have := (HW.out.2.2 E hE).1; omega) ⟨HR.out, HBb.out⟩
      have q4 := blk_cell hV.1 (j := 0) (v := .bool true) rfl
      exact ⟨.bool true, by simp [results, Try.results16, go_sem, q4], rfl, hV.2⟩
end Go.Proofs.Ythfjdoenofkghaa
