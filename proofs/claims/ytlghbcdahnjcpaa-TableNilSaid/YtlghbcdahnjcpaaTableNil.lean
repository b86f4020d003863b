/-
  Of no table every call answers as the document says (R3), whatever it is handed; the examples of the document hold.
  Conditions: none; the law holds for every input.
-/
import Derived.Test.YtlghbcdahnjcpaaTbX
import Derived.Test.YtlghbcdahnjcpaaTbFr
namespace Go.Proofs.Ytlghbcdahnjcpaa
open Go.ChangeShapes Go.WideShapes Go.ChangeAt Go.RowKit Go.Joins
set_option linter.unusedVariables false
set_option linter.unusedSimpArgs false

attribute [local go_sem] Oper.semAt_some
theorem eq_nilFunc (lb : Array Value) (w : World) : Sem.run Try.prog (binOp .eql 74 (.func (.func 46) #[] lb) .nilFunc) w = .ok (.bool false) w := by
  have h : ∀ d, Sem.run Try.prog (Op.equalIn (d + 1) 74 (.func (.func 46) #[] lb) .nilFunc) w = .ok false w := fun d => by
    rw [Op.equalIn]
    simp [go_sem, run_underlying Try.underlying74]
  have h2 : Sem.run Try.prog (Op.equal 74 (.func (.func 46) #[] lb) .nilFunc) w = .ok false w := h 9999
  simp [binOp, go_sem, h2]
/-- A loop over that iterator where nothing comes. -/
theorem range_none (s1 s2 : Nat) {g : Operand} {body : Code} {Q : Exit → Act → World → Prop} {a : Act} {w : World} {lb : Array Value} (hg : a.eval g = .func (.func 46) #[] lb)
    {S Sp : List Rux → Prop} {n₀ : Nat} (hn₀ : n₀ ≤ w.heap.size) (hseq : SeqStopsK Fence.wide 8 Try.prog 46 lb encT (Below n₀) S Sp 0 w)
    (I : World → Prop) (hI : OwnFrom w.heap.size (fun (_ : List Rux) W => I W)) (h0 : I w)
    (hdone : ∀ (D : Nat) (W : World), w.heap.size ≤ D → I W → W.heap[D]? = some (.deferred (some [])) → Q .normal { a with defers := { target := .collected D, args := #[] } :: a.defers } W) :
    (Code.rangeFunc g #[s1, s2] Code.skip body).wpIn Fence.wide 9 Try.prog Q a w := by
  refine wpIn_rangeFunc_ownH (F := Fence.wide) (n := 9) rfl (by decide) (gf := 46) (lb := lb) hg trivial (enters_of Try.func46 (by kernel_rfl) rfl) hseq belowK_t (belowK_b hn₀) (Below.refl _ _) (fun _ => rfl) (fun _ W => I W) (fun _ _ _ => False) hI (fun c s A B row hs _ _ => hs) h0
    (fun x a' W => True) (fun x a' s A B row h _ _ => h) ?_ ?_ (fun D xs W hD _ hi hK => hdone D W hD hi hK) (fun D c pre W _ _ h _ => h.elim)
  · intro l pre x W K hi hK
    gi_wp2
    exact hK _ _ (KeepsFrom.refl _ _) (Below.refl _ _) hi trivial
  · intro l pre x a' W _ _ _ _ hN
    exact absurd hN (Nat.not_lt_zero _)
set_option maxRecDepth 100000 in
set_option maxHeartbeats 8000000 in
theorem tableNil_walk (o : Opp) (bo : ∃ w0, BdO w0 o) (w : World) :
    Calls Try.prog 8 #[.agg (encO o).toArray] w fun e w' => e = .returned (.bool true) ∧ Below w.heap.size w w' := by
  refine callsIn_wide.1 (callsIn_of_wp_marks (n := 9) Try.func8 rfl trivial ?_ rfl)
  simp only [Try.ntmps8, List.size_toArray, List.length_cons, List.length_nil, Nat.reduceAdd, Nat.reduceSub, Array.replicate_succ, Array.replicate_zero, List.push_toArray, List.append_toArray, List.nil_append, List.cons_append]
  refine wpIn_wide.2 ?_
  have y1 : (w.alloc (.cells (encO o).toArray 47)).cell? ⟨w.heap.size, 1, none⟩ = some (.int .i64 o.p) := blk_cell (blk_new w _) rfl
  have x1 : ((w.alloc (.cells (encO o).toArray 47)).alloc (.cells #[.bool false] 4)).cell? ⟨w.heap.size, 1, none⟩ = some (.int .i64 o.p) := blk_cell (blk_alloc (blk_new w _) _) rfl
  have x3 : ((w.alloc (.cells (encO o).toArray 47)).alloc (.cells #[.bool false] 4)).cell? ⟨w.heap.size, 3, none⟩ = some (.int .i64 o.r.i) := blk_cell (blk_alloc (blk_new w _) _) rfl
  have x4 : ((w.alloc (.cells (encO o).toArray 47)).alloc (.cells #[.bool false] 4)).cell? ⟨w.heap.size, 4, none⟩ = some (.int .u32 (o.r.s : Int)) := blk_cell (blk_alloc (blk_new w _) _) rfl
  have x5 : ((w.alloc (.cells (encO o).toArray 47)).alloc (.cells #[.bool false] 4)).cell? ⟨w.heap.size, 5, none⟩ = some (.int .i64 o.r.sl) := blk_cell (blk_alloc (blk_new w _) _) rfl
  have x6 : ((w.alloc (.cells (encO o).toArray 47)).alloc (.cells #[.bool false] 4)).cell? ⟨w.heap.size, 6, none⟩ = some (.int .u32 (o.r.d : Int)) := blk_cell (blk_alloc (blk_new w _) _) rfl
  have x7 : ((w.alloc (.cells (encO o).toArray 47)).alloc (.cells #[.bool false] 4)).cell? ⟨w.heap.size, 7, none⟩ = some (.int .i64 o.r.dl) := blk_cell (blk_alloc (blk_new w _) _) rfl
  have x8 : ((w.alloc (.cells (encO o).toArray 47)).alloc (.cells #[.bool false] 4)).cell? ⟨w.heap.size, 8, none⟩ = some (.int .u16 (o.r.p.1 : Int)) := blk_cell (blk_alloc (blk_new w _) _) rfl
  have x9 : ((w.alloc (.cells (encO o).toArray 47)).alloc (.cells #[.bool false] 4)).cell? ⟨w.heap.size, 9, none⟩ = some (.int .u16 (o.r.p.2 : Int)) := blk_cell (blk_alloc (blk_new w _) _) rfl
  have x10 : ((w.alloc (.cells (encO o).toArray 47)).alloc (.cells #[.bool false] 4)).cell? ⟨w.heap.size, 10, none⟩ = some (.int .u16 (o.r.q.1 : Int)) := blk_cell (blk_alloc (blk_new w _) _) rfl
  have x11 : ((w.alloc (.cells (encO o).toArray 47)).alloc (.cells #[.bool false] 4)).cell? ⟨w.heap.size, 11, none⟩ = some (.int .u16 (o.r.q.2 : Int)) := blk_cell (blk_alloc (blk_new w _) _) rfl
  have x12 : ((w.alloc (.cells (encO o).toArray 47)).alloc (.cells #[.bool false] 4)).cell? ⟨w.heap.size, 12, none⟩ = some (.int .u8 (o.r.m.1 : Int)) := blk_cell (blk_alloc (blk_new w _) _) rfl
  have x13 : ((w.alloc (.cells (encO o).toArray 47)).alloc (.cells #[.bool false] 4)).cell? ⟨w.heap.size, 13, none⟩ = some (.int .u8 (o.r.m.2 : Int)) := blk_cell (blk_alloc (blk_new w _) _) rfl
  have x14 : ((w.alloc (.cells (encO o).toArray 47)).alloc (.cells #[.bool false] 4)).cell? ⟨w.heap.size, 14, none⟩ = some (.int .i64 o.r.act) := blk_cell (blk_alloc (blk_new w _) _) rfl
  clear y1
  go_wp2_with (fail)
  clear x1 x3 x4 x5 x6 x7 x8 x9 x10 x11 x12 x13 x14
  have X1 := bel_a2 w (.cells (encO o).toArray 47) (.cells #[.bool false] 4)
  have No1 : ((w.alloc (.cells (encO o).toArray 47)).alloc (.cells #[.bool false] 4)).heap[w.heap.size]? = some (.cells (encO o).toArray 47) := (blk_alloc (blk_new w (.cells (encO o).toArray 47)) _)
  have Na1 : ((w.alloc (.cells (encO o).toArray 47)).alloc (.cells #[.bool false] 4)).heap[w.heap.size + 1]? = some (.cells #[.bool false] 4) := (by simpa using blk_new (w.alloc (.cells (encO o).toArray 47)) (.cells #[.bool false] 4))
  refine (insertN o.p o.r _).mono ?_
  rintro e W1 ⟨rfl, hb⟩
  have HB1 : Hid (Below w.heap.size w W1) := bel_step (Below.refl _ _) X1 hb
  have Ko1 : Hid (W1.heap[w.heap.size]? = some (.cells (encO o).toArray 47)) := blk_on No1 hb
  have Ka1 : Hid (W1.heap[w.heap.size + 1]? = some (.cells #[.bool false] 4)) := blk_on Na1 hb
  clear X1 hb No1 Na1
  have x2 : W1.cell? ⟨w.heap.size, 2, none⟩ = some (.int .i64 o.i) := blk_cell Ko1.out rfl
  go_wp2_with (fail)
  clear x2
  have X2 := bel_a0 W1
  refine (deleteN o.i _).mono ?_
  rintro e W2 ⟨rfl, hb⟩
  have HB2 : Hid (Below w.heap.size w W2) := bel_step (HB1.out) X2 hb
  have Ko2 : Hid (W2.heap[w.heap.size]? = some (.cells (encO o).toArray 47)) := blk_on (blk_on Ko1.out X2) hb
  have Ka2 : Hid (W2.heap[w.heap.size + 1]? = some (.cells #[.bool false] 4)) := blk_on (blk_on Ka1.out X2) hb
  clear X2 hb HB1
  try clear Ko1
  try clear Ka1
  have x1 : W2.cell? ⟨w.heap.size, 1, none⟩ = some (.int .i64 o.p) := blk_cell Ko2.out rfl
  have x2 : W2.cell? ⟨w.heap.size, 2, none⟩ = some (.int .i64 o.i) := blk_cell Ko2.out rfl
  go_wp2_with (fail)
  clear x1 x2
  have X3 := bel_a0 W2
  refine (moveN o.i o.p _).mono ?_
  rintro e W3 ⟨rfl, hb⟩
  have HB3 : Hid (Below w.heap.size w W3) := bel_step (HB2.out) X3 hb
  have Ko3 : Hid (W3.heap[w.heap.size]? = some (.cells (encO o).toArray 47)) := blk_on (blk_on Ko2.out X3) hb
  have Ka3 : Hid (W3.heap[w.heap.size + 1]? = some (.cells #[.bool false] 4)) := blk_on (blk_on Ka2.out X3) hb
  clear X3 hb HB2
  try clear Ko2
  try clear Ka2
  go_wp2_with (fail)
  have X4 := bel_a0 W3
  refine (setN _).mono ?_
  rintro e W4 ⟨rfl, hb⟩
  have HB4 : Hid (Below w.heap.size w W4) := bel_step (HB3.out) X4 hb
  have Ko4 : Hid (W4.heap[w.heap.size]? = some (.cells (encO o).toArray 47)) := blk_on (blk_on Ko3.out X4) hb
  have Ka4 : Hid (W4.heap[w.heap.size + 1]? = some (.cells #[.bool false] 4)) := blk_on (blk_on Ka3.out X4) hb
  clear X4 hb HB3
  try clear Ko3
  try clear Ka3
  have x1 : W4.cell? ⟨w.heap.size, 1, none⟩ = some (.int .i64 o.p) := blk_cell Ko4.out rfl
  go_wp2_with (fail)
  clear x1
  have X5 := bel_a0 W4
  refine (atN o.p _).mono ?_
  rintro e W5 ⟨rfl, hb⟩
  have HB5 : Hid (Below w.heap.size w W5) := bel_step (HB4.out) X5 hb
  have Ko5 : Hid (W5.heap[w.heap.size]? = some (.cells (encO o).toArray 47)) := blk_on (blk_on Ko4.out X5) hb
  have Ka5 : Hid (W5.heap[w.heap.size + 1]? = some (.cells #[.bool false] 4)) := blk_on (blk_on Ka4.out X5) hb
  clear X5 hb HB4
  try clear Ko4
  try clear Ka4
  have x15 : (W5.alloc (.cells #[.int .i64 0, .int .u32 0, .int .i64 0, .int .u32 0, .int .i64 0, .int .u16 0, .int .u16 0, .int .u16 0, .int .u16 0, .int .u8 0, .int .u8 0, .int .i64 0] 43)).cell? ⟨w.heap.size, 15, none⟩ = some (.int .u32 (o.h.s : Int)) := blk_cell (blk_alloc Ko5.out _) rfl
  have x16 : (W5.alloc (.cells #[.int .i64 0, .int .u32 0, .int .i64 0, .int .u32 0, .int .i64 0, .int .u16 0, .int .u16 0, .int .u16 0, .int .u16 0, .int .u8 0, .int .u8 0, .int .i64 0] 43)).cell? ⟨w.heap.size, 16, none⟩ = some (.int .u32 (o.h.d : Int)) := blk_cell (blk_alloc Ko5.out _) rfl
  have x17 : (W5.alloc (.cells #[.int .i64 0, .int .u32 0, .int .i64 0, .int .u32 0, .int .i64 0, .int .u16 0, .int .u16 0, .int .u16 0, .int .u16 0, .int .u8 0, .int .u8 0, .int .i64 0] 43)).cell? ⟨w.heap.size, 17, none⟩ = some (.int .u16 (o.h.p : Int)) := blk_cell (blk_alloc Ko5.out _) rfl
  have x18 : (W5.alloc (.cells #[.int .i64 0, .int .u32 0, .int .i64 0, .int .u32 0, .int .i64 0, .int .u16 0, .int .u16 0, .int .u16 0, .int .u16 0, .int .u8 0, .int .u8 0, .int .i64 0] 43)).cell? ⟨w.heap.size, 18, none⟩ = some (.int .u16 (o.h.q : Int)) := blk_cell (blk_alloc Ko5.out _) rfl
  have x19 : (W5.alloc (.cells #[.int .i64 0, .int .u32 0, .int .i64 0, .int .u32 0, .int .i64 0, .int .u16 0, .int .u16 0, .int .u16 0, .int .u16 0, .int .u8 0, .int .u8 0, .int .i64 0] 43)).cell? ⟨w.heap.size, 19, none⟩ = some (.int .u8 (o.h.r : Int)) := blk_cell (blk_alloc Ko5.out _) rfl
  go_wp2_with (fail)
  clear x15 x16 x17 x18 x19
  have X6 := bel_a1 W5 (.cells #[.int .i64 0, .int .u32 0, .int .i64 0, .int .u32 0, .int .i64 0, .int .u16 0, .int .u16 0, .int .u16 0, .int .u16 0, .int .u8 0, .int .u8 0, .int .i64 0] 43)
  have Nr6 : (W5.alloc (.cells #[.int .i64 0, .int .u32 0, .int .i64 0, .int .u32 0, .int .i64 0, .int .u16 0, .int .u16 0, .int .u16 0, .int .u16 0, .int .u8 0, .int .u8 0, .int .i64 0] 43)).heap[W5.heap.size]? = some (.cells #[.int .i64 0, .int .u32 0, .int .i64 0, .int .u32 0, .int .i64 0, .int .u16 0, .int .u16 0, .int .u16 0, .int .u16 0, .int .u8 0, .int .u8 0, .int .i64 0] 43) := (blk_new W5 (.cells #[.int .i64 0, .int .u32 0, .int .i64 0, .int .u32 0, .int .i64 0, .int .u16 0, .int .u16 0, .int .u16 0, .int .u16 0, .int .u8 0, .int .u8 0, .int .i64 0] 43))
  refine (matchN o.h _).mono ?_
  rintro e W6 ⟨rfl, hb⟩
  have HB6 : Hid (Below w.heap.size w W6) := bel_step (HB5.out) X6 hb
  have Ko6 : Hid (W6.heap[w.heap.size]? = some (.cells (encO o).toArray 47)) := blk_on (blk_on Ko5.out X6) hb
  have Ka6 : Hid (W6.heap[w.heap.size + 1]? = some (.cells #[.bool false] 4)) := blk_on (blk_on Ka5.out X6) hb
  have Kr6 : Hid (W6.heap[W5.heap.size]? = some (.cells #[.int .i64 0, .int .u32 0, .int .i64 0, .int .u32 0, .int .i64 0, .int .u16 0, .int .u16 0, .int .u16 0, .int .u16 0, .int .u8 0, .int .u8 0, .int .i64 0] 43)) := blk_on Nr6 hb
  clear X6 hb Nr6 HB5
  try clear Ko5
  try clear Ka5
  go_wp2_with (fail)
  have X7 := bel_a1 W6 (.cells #[.bool false, .int .i64 0, .int .i64 0] 56)
  have Nv7 : (W6.alloc (.cells #[.bool false, .int .i64 0, .int .i64 0] 56)).heap[W6.heap.size]? = some (.cells #[.bool false, .int .i64 0, .int .i64 0] 56) := (blk_new W6 (.cells #[.bool false, .int .i64 0, .int .i64 0] 56))
  refine (allC none _).mono ?_
  rintro e W7 ⟨rfl, hw⟩
  have hb : Below (W6.alloc (.cells #[.bool false, .int .i64 0, .int .i64 0] 56)).heap.size (W6.alloc (.cells #[.bool false, .int .i64 0, .int .i64 0] 56)) W7 := by rw [hw]; exact (Below.refl _ _).alloc (Nat.le_refl _) _
  have hcn : W7.cell? ⟨(W6.alloc (.cells #[.bool false, .int .i64 0, .int .i64 0] 56)).heap.size, 0, none⟩ = some (.pointer none) := by rw [hw]; exact blk_cell (blk_new (W6.alloc (.cells #[.bool false, .int .i64 0, .int .i64 0] 56)) _) rfl
  have hsz : W7.heap.size = W6.heap.size + 1 + 1 := by rw [hw]; simp
  have hcs : (W6.alloc (.cells #[.bool false, .int .i64 0, .int .i64 0] 56)).heap.size = W6.heap.size + 1 := by simp
  rw [hcs] at hcn
  have HB7 : Hid (Below w.heap.size w W7) := bel_step HB6.out X7 hb
  have Ko7 : Hid (W7.heap[w.heap.size]? = some (.cells (encO o).toArray 47)) := blk_on (blk_on Ko6.out X7) hb
  have Ka7 : Hid (W7.heap[w.heap.size + 1]? = some (.cells #[.bool false] 4)) := blk_on (blk_on Ka6.out X7) hb
  have Kr7 : Hid (W7.heap[W5.heap.size]? = some (.cells #[.int .i64 0, .int .u32 0, .int .i64 0, .int .u32 0, .int .i64 0, .int .u16 0, .int .u16 0, .int .u16 0, .int .u16 0, .int .u8 0, .int .u8 0, .int .i64 0] 43)) := blk_on (blk_on Kr6.out X7) hb
  have Kv7 : Hid (W7.heap[W6.heap.size]? = some (.cells #[.bool false, .int .i64 0, .int .i64 0] 56)) := blk_on Nv7 hb
  clear hb hw hcs X7 HB6 Ko6 Ka6 Kr6 Nv7
  have HB7s : w.heap.size ≤ W7.heap.size := HB7.out.size
  have hnf := eq_nilFunc
  go_wp2_with (fail)
  refine (wpIn_wide (n := 9)).1 ?_
  refine range_none 51 52 rfl (n₀ := W7.heap.size) (Nat.le_refl _) (all0_stops 8 (by decide) (W6.heap.size + 1) W7.heap.size W7 (by omega) (Nat.le_refl _) hcn) (fun V => (V.heap[w.heap.size]? = some (.cells (encO o).toArray 47) ∧ V.heap[w.heap.size + 1]? = some (.cells #[.bool false] 4) ∧ V.heap[W5.heap.size]? = some (.cells #[.int .i64 0, .int .u32 0, .int .i64 0, .int .u32 0, .int .i64 0, .int .u16 0, .int .u16 0, .int .u16 0, .int .u16 0, .int .u8 0, .int .u8 0, .int .i64 0] 43) ∧ V.heap[W6.heap.size]? = some (.cells #[.bool false, .int .i64 0, .int .i64 0] 56)) ∧ Below w.heap.size w V) ?hI ⟨⟨Ko7.out, Ka7.out, Kr7.out, Kv7.out⟩, HB7.out⟩ ?done
  case hI =>
    rintro s X Y row ⟨⟨a1, a2, a3, a4⟩, b1⟩ hg hr
    have hr' : ∀ r, row = some r → ∃ o : Obj, X.heap[r]? = some o ∧ o.isCells = false := fun r e => (hr r e).2
    exact ⟨⟨blk_kept a1 hg hr', blk_kept a2 hg hr', blk_kept a3 hg hr', blk_kept a4 hg hr'⟩, b1.grown hg b1.size (fun k e => by have := (hr k e).1; have := HB7.out.size; omega)⟩
  case done =>
    rintro D V hD ⟨⟨ko, ka, kr, kv⟩, hbV⟩ hK
    have Ko : Hid (V.heap[w.heap.size]? = some (.cells (encO o).toArray 47)) := ko
    have Ka : Hid (V.heap[w.heap.size + 1]? = some (.cells #[.bool false] 4)) := ka
    have Kr : Hid (V.heap[W5.heap.size]? = some (.cells #[.int .i64 0, .int .u32 0, .int .i64 0, .int .u32 0, .int .i64 0, .int .u16 0, .int .u16 0, .int .u16 0, .int .u16 0, .int .u8 0, .int .u8 0, .int .i64 0] 43)) := kr
    have Kv : Hid (V.heap[W6.heap.size]? = some (.cells #[.bool false, .int .i64 0, .int .i64 0] 56)) := kv
    have HBV : Hid (Below w.heap.size w V) := hbV
    have HD : Hid (V.heap[D]? = some (.deferred (some []))) := hK
    clear ko ka kr kv hbV hK Ko7 Ka7 Kr7 Kv7 HB7 hnf hcn
    go_wp2_with (fail)
    refine (awakeT _).mono ?_
    rintro e V1 ⟨rfl, hb⟩
    have Ko1 : Hid (V1.heap[w.heap.size]? = some (.cells (encO o).toArray 47)) := blk_on Ko.out hb
    have Ka1 : Hid (V1.heap[w.heap.size + 1]? = some (.cells #[.bool false] 4)) := blk_on Ka.out hb
    have Kr1 : Hid (V1.heap[W5.heap.size]? = some (.cells #[.int .i64 0, .int .u32 0, .int .i64 0, .int .u32 0, .int .i64 0, .int .u16 0, .int .u16 0, .int .u16 0, .int .u16 0, .int .u8 0, .int .u8 0, .int .i64 0] 43)) := blk_on Kr.out hb
    have Kv1 : Hid (V1.heap[W6.heap.size]? = some (.cells #[.bool false, .int .i64 0, .int .i64 0] 56)) := blk_on Kv.out hb
    have HD1 : Hid (V1.heap[D]? = some (.deferred (some []))) := blk_on HD.out hb
    have HBV1 : Hid (Below w.heap.size w V1) := HBV.out.trans (hb.mono HBV.out.size)
    clear hb
    have z0 : V1.cell? ⟨W5.heap.size, 0, none⟩ = some (.int .i64 0) := blk_cell Kr1.out rfl
    have z1 : V1.cell? ⟨W5.heap.size, 1, none⟩ = some (.int .u32 0) := blk_cell Kr1.out rfl
    have z2 : V1.cell? ⟨W5.heap.size, 2, none⟩ = some (.int .i64 0) := blk_cell Kr1.out rfl
    have z3 : V1.cell? ⟨W5.heap.size, 3, none⟩ = some (.int .u32 0) := blk_cell Kr1.out rfl
    have z4 : V1.cell? ⟨W5.heap.size, 4, none⟩ = some (.int .i64 0) := blk_cell Kr1.out rfl
    have z5 : V1.cell? ⟨W5.heap.size, 5, none⟩ = some (.int .u16 0) := blk_cell Kr1.out rfl
    have z6 : V1.cell? ⟨W5.heap.size, 6, none⟩ = some (.int .u16 0) := blk_cell Kr1.out rfl
    have z7 : V1.cell? ⟨W5.heap.size, 7, none⟩ = some (.int .u16 0) := blk_cell Kr1.out rfl
    have z8 : V1.cell? ⟨W5.heap.size, 8, none⟩ = some (.int .u16 0) := blk_cell Kr1.out rfl
    have z9 : V1.cell? ⟨W5.heap.size, 9, none⟩ = some (.int .u8 0) := blk_cell Kr1.out rfl
    have z10 : V1.cell? ⟨W5.heap.size, 10, none⟩ = some (.int .u8 0) := blk_cell Kr1.out rfl
    have z11 : V1.cell? ⟨W5.heap.size, 11, none⟩ = some (.int .i64 0) := blk_cell Kr1.out rfl
    have u0 : V1.cell? ⟨W6.heap.size, 0, none⟩ = some (.bool false) := blk_cell Kv1.out rfl
    have u1 : V1.cell? ⟨W6.heap.size, 1, none⟩ = some (.int .i64 0) := blk_cell Kv1.out rfl
    have u2 : V1.cell? ⟨W6.heap.size, 2, none⟩ = some (.int .i64 0) := blk_cell Kv1.out rfl
    have x2 : V1.cell? ⟨w.heap.size, 2, none⟩ = some (.int .i64 o.i) := blk_cell Ko1.out rfl
    go_wp2_with (fail)
    clear x2 u0 u1 u2 z0 z1 z2 z3 z4 z5 z6 z7 z8 z9 z10 z11
    refine (findN o.i _).mono ?_
    rintro e V2 ⟨rfl, hb⟩
    have Ko2 : Hid (V2.heap[w.heap.size]? = some (.cells (encO o).toArray 47)) := blk_on Ko1.out hb
    have Ka2 : Hid (V2.heap[w.heap.size + 1]? = some (.cells #[.bool false] 4)) := blk_on Ka1.out hb
    have Kr2 : Hid (V2.heap[W5.heap.size]? = some (.cells #[.int .i64 0, .int .u32 0, .int .i64 0, .int .u32 0, .int .i64 0, .int .u16 0, .int .u16 0, .int .u16 0, .int .u16 0, .int .u8 0, .int .u8 0, .int .i64 0] 43)) := blk_on Kr1.out hb
    have Kv2 : Hid (V2.heap[W6.heap.size]? = some (.cells #[.bool false, .int .i64 0, .int .i64 0] 56)) := blk_on Kv1.out hb
    have HD2 : Hid (V2.heap[D]? = some (.deferred (some []))) := blk_on HD1.out hb
    have HBV2 : Hid (Below w.heap.size w V2) := HBV1.out.trans (hb.mono HBV1.out.size)
    clear hb
    go_wp2_with (fail)
    refine (rulesN _).mono ?_
    rintro e V3 ⟨rfl, hb⟩
    have Ko3 : Hid (V3.heap[w.heap.size]? = some (.cells (encO o).toArray 47)) := blk_on Ko2.out hb
    have Ka3 : Hid (V3.heap[w.heap.size + 1]? = some (.cells #[.bool false] 4)) := blk_on Ka2.out hb
    have Kr3 : Hid (V3.heap[W5.heap.size]? = some (.cells #[.int .i64 0, .int .u32 0, .int .i64 0, .int .u32 0, .int .i64 0, .int .u16 0, .int .u16 0, .int .u16 0, .int .u16 0, .int .u8 0, .int .u8 0, .int .i64 0] 43)) := blk_on Kr2.out hb
    have Kv3 : Hid (V3.heap[W6.heap.size]? = some (.cells #[.bool false, .int .i64 0, .int .i64 0] 56)) := blk_on Kv2.out hb
    have HD3 : Hid (V3.heap[D]? = some (.deferred (some []))) := blk_on HD2.out hb
    have HBV3 : Hid (Below w.heap.size w V3) := HBV2.out.trans (hb.mono HBV2.out.size)
    clear hb
    go_wp2_with (fail)
    refine (cloneN _).mono ?_
    rintro e V4 ⟨rfl, hb⟩
    have Ko4 : Hid (V4.heap[w.heap.size]? = some (.cells (encO o).toArray 47)) := blk_on Ko3.out hb
    have Ka4 : Hid (V4.heap[w.heap.size + 1]? = some (.cells #[.bool false] 4)) := blk_on Ka3.out hb
    have Kr4 : Hid (V4.heap[W5.heap.size]? = some (.cells #[.int .i64 0, .int .u32 0, .int .i64 0, .int .u32 0, .int .i64 0, .int .u16 0, .int .u16 0, .int .u16 0, .int .u16 0, .int .u8 0, .int .u8 0, .int .i64 0] 43)) := blk_on Kr3.out hb
    have Kv4 : Hid (V4.heap[W6.heap.size]? = some (.cells #[.bool false, .int .i64 0, .int .i64 0] 56)) := blk_on Kv3.out hb
    have HD4 : Hid (V4.heap[D]? = some (.deferred (some []))) := blk_on HD3.out hb
    have HBV4 : Hid (Below w.heap.size w V4) := HBV3.out.trans (hb.mono HBV3.out.size)
    clear hb
    have y0 : V4.cell? ⟨w.heap.size + 1, 0, none⟩ = some (.bool false) := blk_cell Ka4.out rfl
    have f0 := blk_free Ka4.out 0
    go_wp2_with (fail)
    have hk4 := KeepsOthers.setCell V4 ⟨w.heap.size + 1, 0, none⟩ (.bool true)
    have hK' := hk4.same D _ HD4.out rfl
    have q1 := blk_set Ka4.out (j := 0) (.bool true)
    refine ⟨by simp, .inl ⟨_, _, rfl, run_takeDeferred hK', ?_⟩⟩
    have q2 := blk_kept q1 (grownBy_putObj' _ D (.deferred none)) (fun r e => by cases e; exact ⟨_, hK', rfl⟩)
    have q3 := blk_cell q2 (j := 0) (v := .bool true) (by simp)
    refine ⟨.bool true, ?_, rfl, (HBV4.out.setCell (p := ⟨w.heap.size + 1, 0, none⟩) (Nat.le_succ _) _).trans (belowK_b (w := w) (Nat.le_refl _) _ D _ _ (by have := HB7s; omega) hK' rfl rfl)⟩
    simp [results, Try.results8, go_sem, q3]

set_option maxRecDepth 100000 in
theorem tableNil_lifted (os : Os) (started : os.Started) (H : Type) (enc : TypeId × Value → H) :
    ReturnsInHanded {} Try.checked os 8 .any (Rows.tableNilSpec.pre6 enc Try.prog Try.f8 Rows.tableNilRow.domain false) (Rows.tableNilSpec.post enc Try.prog Try.f8 false true false false) := by
  refine returnsInHanded_of_change (C := Try.checked) own started (by kernel_rfl) Try.func8
    (ChangeSpec.witness6 (enc := enc) (C := Try.checked) false ⟨#[], #[.agg #[.int .i64 0, .int .i64 0, .int .i64 0, .int .i64 0, .int .u32 0, .int .i64 0, .int .u32 0, .int .i64 0, .int .u16 0, .int .u16 0, .int .u16 0, .int .u16 0, .int .u8 0, .int .u8 0, .int .i64 0, .int .u32 0, .int .u32 0, .int .u16 0, .int .u16 0, .int .u8 0, .slice none 0 0]], []⟩ 8 (by kernel_rfl) (by kernel_rfl) (by kernel_rfl) (by kernel_rfl)) ?_
  intro W base args ds gs before hval0 hW hcnd _
  have hval : ∀ (j : Nat) t v, Try.f8.params[j]? = some t → args[j]? = some v → Value.okWide Try.prog W .any base t v := hval0
  have hW' := hW
  obtain ⟨p, q, hA0, hV, rfl, hfz, hnd⟩ := hW
  have hA : DataW.TrodAll enc Try.prog W 0 (fun _ => true) true Try.f8.params.toList args.toList ds p := hA0
  rw [Try.params8] at hA hval
  obtain ⟨v0, vs0, d0, ds0, p0, q0, hargs, rfl, rfl, h0, r0⟩ := trodAll_cons hA
  obtain ⟨rfl, rfl, rfl⟩ := trodAll_nil r0
  obtain rfl : args = #[v0] := by cases args; simp_all
  obtain ⟨rfl, rfl⟩ := trodVars_none hV
  have hlt0 : ∀ x ∈ p0, x.block < W.heap.size := fun x hx => by simpa using hW'.lt x (by simp [hx])
  obtain ⟨g0, rfl, o0⟩ := open_op (hval 0 47 v0 rfl rfl) h0
  clear hA0 hval0
  simp only [List.append_nil] at hW'
  refine (tableNil_walk g0 ⟨_, o0⟩ W ).mono fun e W' ⟨he, bel⟩ => ?_
  subst he
  exact ⟨_, rfl, _, _, _, [], _, [], hW', trodAll_mk1 (shut_bool Try.underlying4 _), (trodAll_cons_mk (Below.trod laidOut (by kernel_rfl) (of_decide_eq_true (by kernel_rfl)) h0 bel hlt0) trodAll_mk0), rfl, bel.frame _, fun h => by cases h⟩

/-- The given statement. -/
theorem tableNil_holds : Rows.TableNilSaid :=
  OpenClaim.holds_of_wide 8 Try.f8 rfl rfl rfl rfl rfl rfl rfl ⟨rfl, rfl, rfl, rfl, rfl⟩ rfl rfl rfl rfl rfl (by kernel_rfl) Try.func8 (by kernel_rfl)
    (of_decide_eq_true (by kernel_rfl)) (by unfold Func.isWrapper; first | (rw [if_pos (by decide +kernel)]; kernel_rfl) | (rw [if_neg (by decide +kernel)]; exact ⟨rfl, rfl⟩))
    (fun os started H enc _ => tableNil_lifted os started H enc)
#print axioms tableNil_holds
end Go.Proofs.Ytlghbcdahnjcpaa
